/- Contract of vote.Both: who is in both votes, rising, each once, in memory of the call's own. -/
import Derived.Test.YtbmajbbgfolmiaaDoorVRise

import Derived.Test.YtbmajbbgfolmiaaDoorVSame

import Derived.WalkSmall

namespace Go.Proofs.YtbmajbbgfolmiaaDoor

open Go.ChangeShapes Go.WideShapes Go.ChangeAt Go.RowKit

set_option linter.unusedVariables false

/-- who is in both -/
def bth (xs ys : List Int) : List Int := (ris xs).filter (fun x => (ris ys).contains x)
def bthK (xs ys : List Int) (k : Nat) : List Int := ((ris xs).take k).filter (fun x => (ris ys).contains x)
theorem bthK_zero (xs ys : List Int) : bthK xs ys 0 = [] := rfl
theorem bthK_in (xs ys : List Int) (k : Nat) (h : k < (ris xs).length) (hc : (ris ys).contains ((ris xs).getD k 0) = true) : bthK xs ys (k + 1) = bthK xs ys k ++ [(ris xs).getD k 0] := by
  rw [bthK, List.take_succ_eq_append_getElem h, List.filter_append]
  rw [List.getD_eq_getElem?_getD, List.getElem?_eq_getElem h] at *
  simp only [Option.getD_some] at *
  rw [List.filter_cons_of_pos hc]
  rfl
theorem bthK_out (xs ys : List Int) (k : Nat) (h : k < (ris xs).length) (hc : (ris ys).contains ((ris xs).getD k 0) = false) : bthK xs ys (k + 1) = bthK xs ys k := by
  rw [bthK, List.take_succ_eq_append_getElem h, List.filter_append]
  rw [List.getD_eq_getElem?_getD, List.getElem?_eq_getElem h] at hc
  simp only [Option.getD_some] at hc
  rw [List.filter_cons_of_neg (by rw [hc]; simp)]
  simp [bthK]
theorem bthK_len (xs ys : List Int) (k : Nat) : (bthK xs ys k).length ≤ k := by
  have h1 := List.length_filter_le (fun x => (ris ys).contains x) ((ris xs).take k)
  have h2 := List.length_take_le k (ris xs)
  unfold bthK
  omega
theorem bthK_all (xs ys : List Int) : bthK xs ys (ris xs).length = bth xs ys := by
  rw [bthK, List.take_length]
  rfl
theorem bth_lt (xs ys : List Int) : (bth xs ys).Pairwise (· < ·) := (ris_lt xs).filter _
theorem mem_bth (xs ys : List Int) (x : Int) : x ∈ bth xs ys ↔ x ∈ xs ∧ x ∈ ys := by
  unfold bth
  rw [List.mem_filter, mem_ris, List.contains_iff_mem, mem_ris]
theorem bth_len (xs ys : List Int) : (bth xs ys).length ≤ xs.length := Nat.le_trans (List.length_filter_le _ _) (ris_len xs)

/-- what rises is told by who is in it -/
theorem lt_ext : ∀ (xs ys : List Int), xs.Pairwise (· < ·) → ys.Pairwise (· < ·) → (∀ z, z ∈ xs ↔ z ∈ ys) → xs = ys
  | [], [], _, _, _ => rfl
  | [], y :: ys, _, _, h => absurd ((h y).2 (by simp)) (by simp)
  | x :: xs, [], _, _, h => absurd ((h x).1 (by simp)) (by simp)
  | x :: xs, y :: ys, h1, h2, h => by
    rw [List.pairwise_cons] at h1 h2
    have hx := (h x).1 (by simp)
    have hy := (h y).2 (by simp)
    have e : x = y := by
      rcases List.mem_cons.1 hx with e | hx
      · exact e
      · rcases List.mem_cons.1 hy with e | hy
        · exact e.symm
        · have := h1.1 y hy
          have := h2.1 x hx
          omega
    subst e
    rw [lt_ext xs ys h1.2 h2.2 (fun z => ⟨fun hz => by
      rcases List.mem_cons.1 ((h z).1 (List.mem_cons_of_mem _ hz)) with e | hz2
      · have := h1.1 z hz; omega
      · exact hz2, fun hz => by
      rcases List.mem_cons.1 ((h z).2 (List.mem_cons_of_mem _ hz)) with e | hz2
      · have := h2.1 z hz; omega
      · exact hz2⟩)]
theorem bth_comm (xs ys : List Int) : bth xs ys = bth ys xs := lt_ext _ _ (bth_lt _ _) (bth_lt _ _) (fun z => by rw [mem_bth, mem_bth]; exact And.comm)

theorem search_any (zs : List Int) (a : Option Addr) (l c : Nat) (x : Int) (w : World) (hR : RowIn .i64 w a l c zs) (hl : l < 4611686018427387904) (hs : zs.Pairwise (· ≤ ·)) :
    Calls Tryd.prog 21 #[.slice a l c, .int .i64 x] w fun e w' => ∃ n : Int, e = .returned (.tuple #[.int .i64 n, .bool (zs.contains x)]) ∧ Below w.heap.size w w' := by
  have h1 := hR.len
  by_cases h0 : l = 0
  · subst h0
    obtain rfl : zs = [] := List.eq_nil_of_length_eq_zero h1
    exact (Tryd.slices_BinarySearch_int_empty a c x w).mono fun e w' ⟨he, hw⟩ => ⟨_, he, by rw [hw]; exact Below.refl _ _⟩
  · obtain ⟨b, off, rfl, _, _⟩ := hR.cell 0 (by omega)
    have h := Tryd.slices_BinarySearch_int b off l c zs x w (by omega) hl (fun j hj => by
        obtain ⟨b', off', e, _, hc⟩ := hR.cell j (by omega)
        cases e
        exact hc) (by rw [List.take_of_length_le (by omega)]; exact hs)
    rw [List.take_of_length_le (by omega)] at h
    exact h.mono fun e w' ⟨he, q, hw⟩ => ⟨_, he, by rw [hw]; exact below_drewN (Below.refl _ _) q⟩

theorem owns_base {w : World} {b b' e n : Nat} {v : Value} {xs : List Value} (h : w.ownsRow b e 1 v n xs) (hb : b' ≤ b) : w.ownsRow b' e 1 v n xs := by
  refine ⟨h.1, ?_⟩
  rcases h.2 with h | ⟨g, cap, cur, h1, h2, h3⟩
  · exact .inl h
  · exact .inr ⟨g, cap, cur, h1, Nat.le_trans hb h2, h3⟩

theorem infoI : (Tryd.prog.info? 3).map (fun i => (i.zero, i.size, i.bytes)) = some (some (.int .i64 0), 1, 8) := by kernel_rfl

set_option maxRecDepth 100000 in
set_option maxHeartbeats 1000000 in
theorem both_any (xs ys : List Int) (s h se sr te tr : Int) (a : Option Addr) (l c : Nat) (s2 h2 se2 sr2 te2 tr2 : Int) (a2 : Option Addr) (l2 c2 : Nat) (w : World)
    (hX : RowIn .i64 w a l c xs) (hY : RowIn .i64 w a2 l2 c2 ys) (hl : l * 8 ≤ 140737488355328) (hl2 : l2 * 8 ≤ 140737488355328) :
    Calls Tryd.prog 10 #[.agg (vcells s h se sr te tr a l c), .agg (vcells s2 h2 se2 sr2 te2 tr2 a2 l2 c2)] w fun e w' =>
      ∃ v', e = .returned v' ∧ w'.ownsRow w.heap.size 3 1 v' (bth xs ys).length ((bth xs ys).map (Value.int .i64)) ∧ Below w.heap.size w w' := by
  have hxl := hX.len
  have hyl := hY.len
  have hrl := ris_len xs
  have hrl2 := ris_len ys
  obtain ⟨i0, hi, hz0, hz1, hz2⟩ := info_parts infoI
  have HX := hide ((hX.alloc (vobj s h se sr te tr a l c)).alloc (vobj s2 h2 se2 sr2 te2 tr2 a2 l2 c2))
  have HY := hide ((hY.alloc (vobj s h se sr te tr a l c)).alloc (vobj s2 h2 se2 sr2 te2 tr2 a2 l2 c2))
  clear hX hY
  go_enter Tryd.func10, Tryd.ntmps10
  go_wp2_with fail
  refine (rising_any ys _ _ _ _ HY.out hl2).mono ?_
  rintro e w1 ⟨v1, rfl, hown, hbel⟩
  obtain ⟨ao, d, rfl, hR1⟩ := RowIn.ofOwned hown
  have hs1 : w.heap.size + 1 + 1 ≤ w1.heap.size := by have := hbel.size; simpa using this
  have c0 : w1.cell? ⟨w.heap.size, 6, none⟩ = some (.slice a l c) := by rw [hbel.cell (p := ⟨w.heap.size, 6, none⟩) (by simp; omega)]; simp [go_sem]
  have HX1 := hide (HX.out.below hbel)
  have HN1 := hide ((((Below.refl _ w).alloc (Nat.le_refl _) (vobj s h se sr te tr a l c)).alloc (by simp) (vobj s2 h2 se2 sr2 te2 tr2 a2 l2 c2)).trans (hbel.mono (by simp; omega)))
  have HR1 := hide hR1
  clear hown hbel HX HY hR1
  go_wp2_with fail
  refine (rising_any xs _ _ _ _ HX1.out hl).mono ?_
  rintro e w2 ⟨v2, rfl, hown, hbel⟩
  obtain ⟨ao2, d2, rfl, hR2⟩ := RowIn.ofOwned hown
  have HR2 := hide hR2
  have HR12 := hide (HR1.out.below hbel)
  have HN2 := hide (HN1.out.trans (hbel.mono (by omega)))
  have hs2 : w.heap.size ≤ w2.heap.size := by have := hbel.size; omega
  clear hown hbel HX1 HN1 HR1 hR2 c0
  obtain ⟨m, hm⟩ : ∃ m, Hid ((ris xs).length = m) := ⟨_, rfl⟩
  obtain ⟨m2, hm2⟩ : ∃ m, Hid ((ris ys).length = m) := ⟨_, rfl⟩
  rw [hm.out] at HR2 hrl
  rw [hm2.out] at HR12 hrl2
  rw [hm.out, hm2.out]
  go_wp2
  go_loopw [6, 18] (fun b i wr => ∃ (k : Nat) (ao3 : Option Addr) (n3 d3 : Nat), k ≤ m ∧ i = .int .i64 k ∧ b = .slice ao3 n3 d3 ∧ Hid ((bthK xs ys k).length = n3 ∧ wr.ownsRow w2.heap.size 3 1 (.slice ao3 n3 d3) n3 ((bthK xs ys k).map (Value.int .i64)) ∧ Below w2.heap.size w2 wr)) (fun b i _ => m - (intOf i).toNat)
  case atStart => exact ⟨0, none, 0, 0, Nat.zero_le _, rfl, rfl, hide ⟨rfl, by rw [bthK_zero]; exact World.ownsRow_nil _ _ _ _, Below.refl _ _⟩⟩
  case round =>
    obtain ⟨k, ao3, n3, d3, hk, rfl, rfl, hI⟩ := hrel
    by_cases hlt : k < m
    · obtain ⟨b, off, rfl, hbs, hcn⟩ := (HR2.out.below hI.out.2.2).cell k hlt
      obtain ⟨x, hx⟩ : ∃ n, Hid ((ris xs).getD k 0 = n) := ⟨_, rfl⟩
      rw [hx.out] at hcn
      by_cases hin : (ris ys).contains x = true
      · have hI2 := hI
        go_wp2_with fail
        refine (search_any (ris ys) _ _ _ x _ (HR12.out.below hI.out.2.2) (by omega) (ris_le ys)).mono ?_
        rintro e w4 ⟨n4, rfl, hb4⟩
        rw [hin]
        have hn3 : n3 ≤ k := by rw [← hI.out.1]; exact bthK_len xs ys k
        have HO := hide (owns_below hI.out.2.1 hb4)
        have HB4 := hide (hI.out.2.2.trans (hb4.mono hI.out.2.2.size))
        clear hb4
        go_wp2_with (at_builtin; refine wpList_append_rows _ rfl (.tmp 29) (.tmp 31) 28 rfl w2.heap.size 3 i0 .i64 (.int .i64 0) 8 Tryd.underlying28 hi hz0 hz1 hz2 rfl (.slice ao3 n3 d3) n3 (bthK xs ys k) rfl (HO.out.alloc _) (some ⟨w4.heap.size, 0, none⟩) 1 1 [x] rfl (RowIn.lit .i64 _ _ _ _ _ _ _ [_] rfl rfl rfl (by simp [maxLen])) ?c1 ?c2 ?c3 ?_)
        case c1 => unfold maxLen; omega
        case c2 => omega
        case c3 => have := HB4.out.size; simp; omega
        intro ao5 d5 w5 hown5 hg5
        have hrow : ∀ j, (Value.slice ao3 n3 d3).ownBlock = some j → w2.heap.size ≤ j := fun j hj => (HO.out.lt j hj).1
        have HST : Hid ((bthK xs ys (k + 1)).length = n3 + 1 ∧ w5.ownsRow w2.heap.size 3 1 (.slice ao5 (n3 + 1) d5) (n3 + 1) ((bthK xs ys (k + 1)).map (Value.int .i64)) ∧ Below w2.heap.size w2 w5) := by
          have e1 := bthK_in xs ys k (by rw [hm.out]; exact hlt) (by rw [hx.out]; exact hin)
          rw [hx.out] at e1
          refine hide ⟨by rw [e1]; simp [hI.out.1], by rw [e1, List.map_append]; exact hown5, ?_⟩
          exact (HB4.out.alloc (HB4.out.size) _).grown hg5 (by have := HB4.out.size; simp; omega) hrow
        clear hown5 hg5 HO HB4 hrow
        go_wp2
        go_roundw
        case rel => exact ⟨k + 1, _, _, _, by omega, by go_num, rfl, HST⟩
        case measure => simp [intOf]; omega
      · have hin2 : (ris ys).contains x = false := by simpa using hin
        go_wp2_with fail
        refine (search_any (ris ys) _ _ _ x _ (HR12.out.below hI.out.2.2) (by omega) (ris_le ys)).mono ?_
        rintro e w4 ⟨n4, rfl, hb4⟩
        rw [hin2]
        have HST : Hid ((bthK xs ys (k + 1)).length = n3 ∧ w4.ownsRow w2.heap.size 3 1 (.slice ao3 n3 d3) n3 ((bthK xs ys (k + 1)).map (Value.int .i64)) ∧ Below w2.heap.size w2 w4) := by
          have e1 := bthK_out xs ys k (by rw [hm.out]; exact hlt) (by rw [hx.out]; exact hin2)
          rw [e1]
          exact hide ⟨hI.out.1, owns_below hI.out.2.1 hb4, hI.out.2.2.trans (hb4.mono hI.out.2.2.size)⟩
        clear hb4
        go_wp2
        go_roundw
        case rel => exact ⟨k + 1, _, _, _, by omega, by go_num, rfl, HST⟩
        case measure => simp [intOf]; omega
    · have : k = m := by omega
      subst this
      have e1 := bthK_all xs ys
      rw [hm.out] at e1
      go_wp2
      go_ret
      have h3 := hI.out
      rw [e1] at h3
      exact ⟨_, rfl, by rw [h3.1]; exact owns_base h3.2.1 hs2, HN2.out.trans (h3.2.2.mono hs2)⟩
end Go.Proofs.YtbmajbbgfolmiaaDoor

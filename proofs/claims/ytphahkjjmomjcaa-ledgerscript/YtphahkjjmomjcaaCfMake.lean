/- Contracts of psephoslaw03's rest and Make: a configuration that may be, of any. -/
import Derived.Test.YtphahkjjmomjcaaCfMay

import Derived.Test.YtphahkjjmomjcaaRowLaws

import Derived.Deep.RegionHeld3

namespace Go.Proofs.Ytphahkjjmomjcaa

open Go.ChangeShapes Go.WideShapes Go.ChangeAt Go.RowKit

set_option linter.unusedVariables false

theorem rest_math (n m : Int) (hm : 0 < m) : (n.tmod m + m).tmod m = n % m := by
  have h1 : n.tmod m = _ := Int.tmod_eq_emod
  have h2 := Int.emod_nonneg n (show m ≠ 0 by omega)
  have h3 := Int.emod_lt_of_pos n hm
  rw [h1]
  split
  · rw [show n % m - ((0 : Nat) : Int) + m = n % m + m by omega, Int.tmod_eq_emod_of_nonneg (by omega), Int.add_emod_right, Int.emod_eq_of_lt h2 h3]
  · rw [show n % m - ((m.natAbs : Nat) : Int) + m = n % m by omega, Int.tmod_eq_emod_of_nonneg h2, Int.emod_eq_of_lt h2 h3]
theorem rest_any (n m : Int) (w : World) (hn : -9223372036854775808 ≤ n ∧ n ≤ 9223372036854775807) (hm : 0 < m ∧ m ≤ 1000000) :
    Calls Try.prog 38 #[.int .i64 n, .int .i64 m] w fun e w' => e = .returned (.int .i64 (n % m)) ∧ w' = w := by
  have h := rest_math n m hm.1
  have h2 := Int.emod_nonneg n (show m ≠ 0 by omega)
  have h3 := Int.emod_lt_of_pos n hm.1
  go_enter Try.func38, Try.ntmps38
  go_wp2
  go_ret
  refine ⟨ret_int ?_, rfl⟩
  have h4 : -m < n.tmod m ∧ n.tmod m < m := ⟨by have := Int.lt_tmod_of_pos n hm.1; omega, Int.tmod_lt_of_pos n hm.1⟩
  rw [show wrap64 (n.tmod m + m) = n.tmod m + m from by unfold wrap64; omega, h]

/-- what Make makes of balances, of a number of slots, of a boost -/
def mkOne (b : Int) : Int := b % 4294967297
def mkBs (bs : List Int) : List Int := if bs = [] then [7] else (bs.take 4096).map mkOne
def mkS (s : Int) : Int := 1 + IntKind.i64.wrap (s - 1) % 64
def mkB (b : Int) : Int := b % 101

/-- what has been made after k balances -/
def mkL (bs : List Int) (k : Nat) : List Int := ((bs.take 4096).take k).map mkOne
theorem mkL_zero (bs : List Int) : mkL bs 0 = [] := rfl
theorem mkL_succ (bs : List Int) (k : Nat) (h : k < bs.length) (h2 : k < 4096) : mkL bs (k + 1) = mkL bs k ++ [mkOne (bs.getD k 0)] := by
  unfold mkL
  rw [List.take_succ_eq_append_getElem (show k < (bs.take 4096).length by simp; omega), List.map_append]
  simp [List.getD_eq_getElem?_getD, List.getElem?_eq_getElem h]
theorem mkL_more (bs : List Int) (k : Nat) (h2 : 4096 ≤ k) : mkL bs (k + 1) = mkL bs k := by
  unfold mkL
  rw [List.take_of_length_le (i := k + 1) (by simp <;> omega), List.take_of_length_le (i := k) (by simp <;> omega)]
theorem mkL_len (bs : List Int) (k : Nat) : (mkL bs k).length ≤ 4096 := by unfold mkL; simp; omega
theorem mkL_all (bs : List Int) (h : bs ≠ []) : mkL bs bs.length = mkBs bs := by
  unfold mkL mkBs
  rw [if_neg h, List.take_of_length_le (by simp; omega)]

theorem mkBs_len (bs : List Int) : 1 ≤ (mkBs bs).length ∧ (mkBs bs).length ≤ 4096 := by
  unfold mkBs
  split
  · simp
  · rename_i h
    have := List.length_pos_iff.2 h
    simp only [List.length_map, List.length_take]
    omega
theorem mkBs_b (bs : List Int) : ∀ z ∈ mkBs bs, 0 ≤ z ∧ z ≤ 4294967296 := by
  unfold mkBs
  split
  · intro z hz; simp at hz; omega
  · intro z hz
    obtain ⟨x, _, rfl⟩ := List.mem_map.1 hz
    unfold mkOne
    omega
theorem mkS_b (s : Int) : 1 ≤ mkS s ∧ mkS s ≤ 64 := by unfold mkS; omega
theorem mkB_b (b : Int) : 0 ≤ mkB b ∧ mkB b ≤ 100 := by unfold mkB; omega

structure MkInv (w : World) (bs : List Int) (S B : Int) (k : Nat) (ao : Option Addr) (d : Nat) (wr : World) : Prop where
  c0 : wr.cell? ⟨w.heap.size + 1 + 1, 0, none⟩ = some (.slice ao (mkL bs k).length d)
  c1 : wr.cell? ⟨w.heap.size + 1 + 1, 1, none⟩ = some (.int .i64 S)
  c2 : wr.cell? ⟨w.heap.size + 1 + 1, 2, none⟩ = some (.int .i64 B)
  r : ∀ i, i < 3 → ∃ v, wr.cell? ⟨w.heap.size + 1, i, none⟩ = some v
  f : ∀ i, wr.frozen? ⟨w.heap.size + 1 + 1, i, none⟩ = false
  fr : ∀ i, wr.frozen? ⟨w.heap.size + 1, i, none⟩ = false
  own : wr.ownsRow (w.heap.size + 3) 37 1 (.slice ao (mkL bs k).length d) (mkL bs k).length ((mkL bs k).map (Value.int .u64))
  bel : Below w.heap.size w wr
  size : w.heap.size + 3 ≤ wr.heap.size

theorem MkInv.step {w : World} {bs : List Int} {S B : Int} {k : Nat} {ao : Option Addr} {d : Nat} {wr : World} (h : MkInv w bs S B k ao d wr) (n : Nat) (hn : (mkL bs k).length = n) (y : Int) (hy : mkL bs (k + 1) = mkL bs k ++ [y])
    (o : Obj) (w4 : World) (ao4 : Option Addr) (d4 : Nat) (hg : (wr.alloc o).grownBy w4 (Value.slice ao n d).ownBlock)
    (hown : w4.ownsRow (w.heap.size + 3) 37 1 (.slice ao4 (n + 1) d4) (n + 1) ((mkL bs k ++ [y]).map (Value.int .u64))) :
    w4.cell? ⟨w.heap.size + 1 + 1, 0, none⟩ = some (.slice ao n d) ∧ w4.frozen? ⟨w.heap.size + 1 + 1, 0, none⟩ = false ∧
      MkInv w bs S B (k + 1) ao4 d4 (w4.setCell ⟨w.heap.size + 1 + 1, 0, none⟩ (.slice ao4 (n + 1) d4)) := by
  subst hn
  have hrow : ∀ j, (Value.slice ao (mkL bs k).length d).ownBlock = some j → w.heap.size + 3 ≤ j := fun j hj => (h.own.lt j hj).1
  have hne : ∀ j, j < w.heap.size + 3 → some j ≠ (Value.slice ao (mkL bs k).length d).ownBlock := fun j hj e => by have := hrow j e.symm; omega
  have hbl : ∀ j, j < w.heap.size + 3 → w4.heap[j]? = wr.heap[j]? := fun j hj => by
    rw [hg.block j (by have := h.size; simp; omega) (hne j hj)]
    exact Below.heap_alloc _ _ _ (by have := h.size; omega)
  have hcell : ∀ b i, b < w.heap.size + 3 → w4.cell? ⟨b, i, none⟩ = wr.cell? ⟨b, i, none⟩ := fun b i hb => World.cell?_of_block (a := ⟨b, i, none⟩) (hbl b hb)
  have hfroz : ∀ b i, b < w.heap.size + 3 → w4.frozen? ⟨b, i, none⟩ = wr.frozen? ⟨b, i, none⟩ := fun b i hb => World.frozen?_of_block (a := ⟨b, i, none⟩) (hbl b hb)
  have e0 : w4.cell? ⟨w.heap.size + 1 + 1, 0, none⟩ = some (.slice ao (mkL bs k).length d) := (hcell _ _ (by omega)).trans h.c0
  have hlen : (mkL bs (k + 1)).length = (mkL bs k).length + 1 := by rw [hy]; simp
  refine ⟨e0, (hfroz _ _ (by omega)).trans (h.f 0), ?_⟩
  constructor
  case c0 => rw [World.cell?_setCell_same _ _ _ e0, hlen]
  case c1 => rw [World.cell?_setCell_other _ _ _ _ (by simp), hcell _ _ (by omega)]; exact h.c1
  case c2 => rw [World.cell?_setCell_other _ _ _ _ (by simp), hcell _ _ (by omega)]; exact h.c2
  case r => intro i hi; rw [World.cell?_setCell_other _ _ _ _ (by simp), hcell _ _ (by omega)]; exact h.r i hi
  case f => intro i; rw [World.frozen?_setCell, hfroz _ _ (by omega)]; exact h.f i
  case fr => intro i; rw [World.frozen?_setCell, hfroz _ _ (by omega)]; exact h.fr i
  case own => rw [hlen, hy]; exact ownsRow_setCell_below hown (by simp) _
  case bel => exact ((h.bel.alloc (by have := h.size; omega) o).grown hg (by have := h.size; simp; omega) (fun j hj => by have := hrow j hj; omega)).setCell (by simp; omega) _
  case size => have := hg.size; have := h.size; simp at *; omega

theorem MkInv.skip {w : World} {bs : List Int} {S B : Int} {k : Nat} {ao : Option Addr} {d : Nat} {wr : World} (h : MkInv w bs S B k ao d wr) (hk : 4096 ≤ k) : MkInv w bs S B (k + 1) ao d wr := by
  have e := mkL_more bs k hk
  exact ⟨by rw [e]; exact h.c0, h.c1, h.c2, h.r, h.f, h.fr, by rw [e]; exact h.own, h.bel, h.size⟩

theorem info64 : (Try.prog.info? 37).map (fun i => (i.zero, i.size, i.bytes)) = some (some (.int .u64 0), 1, 8) := by kernel_rfl

set_option maxRecDepth 100000 in
set_option maxHeartbeats 1000000 in
theorem make_any (bs : List Int) (a : Option Addr) (l c : Nat) (s b : Int) (w : World) (hB : RowIn .u64 w a l c bs) (hu : ∀ z ∈ bs, 0 ≤ z ∧ z ≤ 18446744073709551615)
    (hs : -9223372036854775808 ≤ s ∧ s ≤ 9223372036854775807) (hb : -9223372036854775808 ≤ b ∧ b ≤ 9223372036854775807) :
    Calls Try.prog 11 #[.agg #[.slice a l c, .int .i64 s, .int .i64 b]] w fun e w' =>
      ∃ ao d, e = .returned (.agg #[.slice ao (mkBs bs).length d, .int .i64 (mkS s), .int .i64 (mkB b)]) ∧ RowIn .u64 w' ao (mkBs bs).length d (mkBs bs) ∧ Below w.heap.size w w' := by
  have hl := hB.len
  have hc := hB.cap
  unfold maxLen at hc
  have HB := hide hB
  have HU := hide hu
  clear hB hu
  obtain ⟨m, hm⟩ : ∃ m, IntKind.i64.wrap (s - 1) = m := ⟨_, rfl⟩
  have hm1 : -9223372036854775808 ≤ m ∧ m ≤ 9223372036854775807 := by rw [← hm, IntKind.wrap_i64]; omega
  have hS : Hid (mkS s = 1 + m % 64) := by rw [← hm]; rfl
  have hm2 : IntKind.i64.wrap (1 + m % 64) = 1 + m % 64 := by rw [IntKind.wrap_i64]; omega
  obtain ⟨i0, hi, hz0, hz1, hz2⟩ := info_parts info64
  go_enter Try.func11, Try.ntmps11
  go_wp2
  go_region_held3 (fun w' => w'.cell? ⟨w.heap.size, 0, none⟩ = some (.slice a l c) ∧ w'.cell? ⟨w.heap.size, 1, none⟩ = some (.int .i64 s) ∧ w'.cell? ⟨w.heap.size, 2, none⟩ = some (.int .i64 b))
    (go_keep)
    (first
      | (go_at_call_of 38 (Value.int .i64 64)
         refine (rest_any m 64 _ hm1 (by omega)).mono ?_
         rintro e w' ⟨rfl, hw⟩
         obtain rfl : _ = w' := hw.symm)
      | (go_at_call_of 38 (Value.int .i64 101)
         refine (rest_any _ 101 _ hb (by omega)).mono ?_
         rintro e w' ⟨rfl, hw⟩
         obtain rfl : _ = w' := hw.symm))
  all_goals
    go_wp2
    go_loopw [18] (fun i wr => ∃ (k : Nat) (ao : Option Addr) (d : Nat), k ≤ l ∧ i = .int .i64 k ∧ Hid (MkInv w bs (mkS s) (mkB b) k ao d wr)) (fun i _ => l - (intOf i).toNat)
    case atStart =>
      refine ⟨0, none, 0, Nat.zero_le _, rfl, hide ?_⟩
      constructor
      case own => exact World.ownsRow_nil _ _ _ _
      case bel => exact ((((Below.refl _ _).alloc (Nat.le_refl _) _).alloc (by simp) _).alloc (by simp <;> omega) _).drew
      case c0 => simp [go_sem, mkL_zero]
      case c1 => simp [go_sem, hS.out]
      case c2 => simp [go_sem, mkB]
      case r => intro i hi; match i, hi with | 0, _ => simp [go_sem] | 1, _ => simp [go_sem] | 2, _ => simp [go_sem]
      case f => intro i; simp [go_sem]
      case fr => intro i; simp [go_sem]
      case size => simp
    case round =>
      obtain ⟨k, ao, d, hk, rfl, hI⟩ := hrel
      have c0 := hI.out.c0
      have f0 := hI.out.f 0
      by_cases hlt : k < l
      · obtain ⟨g, off, rfl, hbs, hcn⟩ := (HB.out.below hI.out.bel).cell k hlt
        by_cases h4 : (k : Int) < 4096
        · obtain ⟨n, hn⟩ : ∃ n, Hid ((mkL bs k).length = n) := ⟨_, rfl⟩
          obtain ⟨x, hx⟩ : ∃ x, Hid (bs.getD k 0 = x) := ⟨_, rfl⟩
          rw [hn.out] at c0
          rw [hx.out] at hcn
          have hown := hI.out.own
          rw [hn.out] at hown
          have HO := hide hown
          clear hown
          have hnb : n ≤ 4096 := by rw [← hn.out]; exact mkL_len bs k
          go_wp2_with (at_builtin; refine wpList_append_rows _ rfl (.tmp 26) (.tmp 29) 22 rfl (w.heap.size + 3) 37 i0 .u64 (.int .u64 0) 8 Try.underlying22 hi hz0 hz1 hz2 rfl (.slice ao n d) n (mkL bs k) rfl (HO.out.alloc _) (some ⟨wr.heap.size, 0, none⟩) 1 1 [_] rfl (RowIn.lit .u64 _ _ _ _ _ _ _ [_] rfl rfl rfl (by simp [maxLen])) ?c1 ?c2 ?c3 ?_)
          case c1 => unfold maxLen; omega
          case c2 => omega
          case c3 => have := hI.out.size; simp; omega
          intro ao4 d4 w4 hown4 hgrow4
          have hxb : 0 ≤ x := by
            have := HU.out (bs.getD k 0) (by rw [List.getD_eq_getElem?_getD, List.getElem?_eq_getElem (show k < bs.length by omega)]; exact List.getElem_mem _)
            rw [hx.out] at this
            exact this.1
          have hst := hI.out.step n hn.out (x.tmod 4294967297) (by rw [mkL_succ bs k (by omega) (by omega), hx.out, mkOne, Int.tmod_eq_emod_of_nonneg hxb]) _ w4 ao4 d4 hgrow4 (by rw [List.map_append]; exact hown4)
          obtain ⟨e0, e1, hst⟩ := hst
          have HST := hide hst
          clear hst hown4 hgrow4 hxb HO c0 f0
          go_wp2
          go_roundw
          case rel => exact ⟨k + 1, _, _, by omega, by go_num, HST⟩
          case measure => simp [intOf]; omega
        · have HST := hide (hI.out.skip (by omega))
          go_wp2
          go_roundw
          case rel => exact ⟨k + 1, _, _, by omega, by go_num, HST⟩
          case measure => simp [intOf]; omega
      · have : k = l := by omega
        subst this
        have r0 := hI.out.r 0 (by omega)
        obtain ⟨v0, r0⟩ := r0
        obtain ⟨v1, r1⟩ := hI.out.r 1 (by omega)
        obtain ⟨v2, r2⟩ := hI.out.r 2 (by omega)
        have c1 := hI.out.c1
        have c2 := hI.out.c2
        have g0 := hI.out.fr 0
        have g1 := hI.out.fr 1
        have g2 := hI.out.fr 2
        have hsz := hI.out.size
        have hs1 : w.heap.size + 1 < wr.heap.size := by omega
        have hs2 : w.heap.size + 1 + 1 < wr.heap.size := by omega
        by_cases h0 : k = 0
        · subst h0
          rw [mkL_zero] at c0
          obtain rfl : bs = [] := List.eq_nil_of_length_eq_zero hl
          go_wp2
          refine bodyPost_ret (v := .agg #[.slice (some ⟨wr.heap.size, 0, none⟩) 1 1, .int .i64 (mkS s), .int .i64 (mkB b)]) (by simp [results, Try.results11, go_sem, *]) rfl ⟨_, _, rfl, ?_, ?_⟩
          · exact RowIn.lit .u64 _ _ _ _ _ 1 1 [7] (by simp) rfl rfl (by simp [maxLen])
          · exact (((((hI.out.bel.setCell (by simp; omega) _).setCell (by simp) _).setCell (by simp) _).setCell (by simp) _).alloc (by simp; omega) _)
        · have hbn : bs ≠ [] := fun e => h0 (by rw [← hl, e]; rfl)
          have e2 := mkL_all bs hbn
          rw [hl] at e2
          have hown := hI.out.own
          rw [e2] at c0 hown
          obtain ⟨n, hn⟩ : ∃ n, Hid ((mkBs bs).length = n) := ⟨_, rfl⟩
          rw [hn.out] at c0 hown
          have hn0 : ¬ n = 0 := by
            have := (mkBs_len bs).1
            rw [hn.out] at this
            omega
          have HO := hide hown
          have HE := hide e2
          clear hown e2
          go_wp2
          refine bodyPost_ret (v := .agg #[.slice ao n d, .int .i64 (mkS s), .int .i64 (mkB b)]) (by simp [results, Try.results11, go_sem, *]) rfl ⟨ao, d, by rw [hn.out], ?_, ?_⟩
          · rw [hn.out]
            obtain ⟨ao', c', e', R⟩ := RowIn.ofOwned (ownsRow_setCell_below (ownsRow_setCell_below (ownsRow_setCell_below HO.out (a := ⟨w.heap.size + 1, 0, none⟩) (by simp) (.slice ao n d)) (a := ⟨w.heap.size + 1, 1, none⟩) (by simp) (.int .i64 (mkS s))) (a := ⟨w.heap.size + 1, 2, none⟩) (by simp) (.int .i64 (mkB b)))
            cases e'
            exact R
          · exact ((hI.out.bel.setCell (by simp) _).setCell (by simp) _).setCell (by simp) _
end Go.Proofs.Ytphahkjjmomjcaa

/- Contract of psephoslaw05's Make: a vote that may be, of any. -/
import Derived.Test.YtphahkjjmomjcaaVRight

namespace Go.Proofs.Ytphahkjjmomjcaa

open Go.ChangeShapes Go.WideShapes Go.ChangeAt Go.RowKit

set_option linter.unusedVariables false

/-- who votes, of the first k -/
def pickK (zs : List Int) (k : Nat) : List Int := ((List.range k).map (fun i : Nat => (i : Int))).filter (fun x => decide (x ∈ zs ∨ (x = 0 ∧ zs.length = 0)))
/-- who votes -/
def mvW (n : Nat) (zs : List Int) : List Int := if pickK zs n = [] then [0] else pickK zs n
theorem pickK_in (zs : List Int) (k : Nat) (h : (k : Int) ∈ zs ∨ ((k : Int) = 0 ∧ zs.length = 0)) : pickK zs (k + 1) = pickK zs k ++ [(k : Int)] := by
  rw [pickK, List.range_succ, List.map_append, List.filter_append]
  congr 1
  exact List.filter_cons_of_pos (decide_eq_true h)
theorem pickK_out (zs : List Int) (k : Nat) (h : ¬ ((k : Int) ∈ zs ∨ ((k : Int) = 0 ∧ zs.length = 0))) : pickK zs (k + 1) = pickK zs k := by
  rw [pickK, List.range_succ, List.map_append, List.filter_append]
  have : List.filter (fun x => decide (x ∈ zs ∨ (x = 0 ∧ zs.length = 0))) (List.map (fun i : Nat => (i : Int)) [k]) = [] := List.filter_cons_of_neg (by simpa using h)
  rw [this, List.append_nil]
  rfl
theorem pickK_len (zs : List Int) (k : Nat) : (pickK zs k).length ≤ k := by
  have := List.length_filter_le (fun x => decide (x ∈ zs ∨ (x = 0 ∧ zs.length = 0))) ((List.range k).map (fun i : Nat => (i : Int)))
  simp only [List.length_map, List.length_range] at this
  exact this
theorem pickK_lt (zs : List Int) (k : Nat) : (pickK zs k).Pairwise (· < ·) := by
  refine List.Pairwise.filter _ ?_
  rw [List.pairwise_map]
  exact List.pairwise_lt_range.imp (fun h => by omega)
theorem mem_pickK (zs : List Int) (k : Nat) (x : Int) : x ∈ pickK zs k → 0 ≤ x ∧ x < k := by
  intro h
  have := (List.mem_filter.1 h).1
  obtain ⟨i, hi, rfl⟩ := List.mem_map.1 this
  have := List.mem_range.1 hi
  omega
theorem mvW_lt (n : Nat) (zs : List Int) : (mvW n zs).Pairwise (· < ·) := by
  unfold mvW
  split
  · simp
  · exact pickK_lt zs n
theorem mem_mvW (n : Nat) (zs : List Int) (hn : 1 ≤ n) (x : Int) : x ∈ mvW n zs → 0 ≤ x ∧ x < n := by
  unfold mvW
  split
  · intro h; simp at h; omega
  · exact mem_pickK zs n x
theorem mvW_len (n : Nat) (zs : List Int) (hn : 1 ≤ n) : 1 ≤ (mvW n zs).length ∧ (mvW n zs).length ≤ n := by
  unfold mvW
  split
  · simp; omega
  · rename_i h
    exact ⟨List.length_pos_iff.2 h, pickK_len zs n⟩

structure MvInv (w : World) (zs : List Int) (S H SE SR TE TR : Int) (a : Option Addr) (l c : Nat) (k : Nat) (ao : Option Addr) (d : Nat) (wr : World) : Prop where
  v6 : wr.cell? ⟨w.heap.size + 1, 6, none⟩ = some (.slice a l c)
  c0 : wr.cell? ⟨w.heap.size + 1 + 1 + 1, 0, none⟩ = some (.int .i64 S)
  c1 : wr.cell? ⟨w.heap.size + 1 + 1 + 1, 1, none⟩ = some (.int .u64 H)
  c2 : wr.cell? ⟨w.heap.size + 1 + 1 + 1, 2, none⟩ = some (.int .i64 SE)
  c3 : wr.cell? ⟨w.heap.size + 1 + 1 + 1, 3, none⟩ = some (.int .u64 SR)
  c4 : wr.cell? ⟨w.heap.size + 1 + 1 + 1, 4, none⟩ = some (.int .i64 TE)
  c5 : wr.cell? ⟨w.heap.size + 1 + 1 + 1, 5, none⟩ = some (.int .u64 TR)
  c6 : wr.cell? ⟨w.heap.size + 1 + 1 + 1, 6, none⟩ = some (.slice ao (pickK zs k).length d)
  r : ∀ i, i < 7 → ∃ v, wr.cell? ⟨w.heap.size + 1 + 1, i, none⟩ = some v
  f : ∀ i, wr.frozen? ⟨w.heap.size + 1 + 1 + 1, i, none⟩ = false
  fr : ∀ i, wr.frozen? ⟨w.heap.size + 1 + 1, i, none⟩ = false
  own : wr.ownsRow (w.heap.size + 4) 3 1 (.slice ao (pickK zs k).length d) (pickK zs k).length ((pickK zs k).map (Value.int .i64))
  bel : Below w.heap.size w wr
  size : w.heap.size + 4 ≤ wr.heap.size

theorem MvInv.step {w : World} {zs : List Int} {S H SE SR TE TR : Int} {a : Option Addr} {l c : Nat} {k : Nat} {ao : Option Addr} {d : Nat} {wr : World} (h : MvInv w zs S H SE SR TE TR a l c k ao d wr) (n : Nat) (hn : (pickK zs k).length = n) (y : Int) (hy : pickK zs (k + 1) = pickK zs k ++ [y])
    (o : Obj) (w4 : World) (ao4 : Option Addr) (d4 : Nat) (hg : (wr.alloc o).grownBy w4 (Value.slice ao n d).ownBlock)
    (hown : w4.ownsRow (w.heap.size + 4) 3 1 (.slice ao4 (n + 1) d4) (n + 1) ((pickK zs k ++ [y]).map (Value.int .i64))) :
    w4.cell? ⟨w.heap.size + 1 + 1 + 1, 6, none⟩ = some (.slice ao n d) ∧ w4.frozen? ⟨w.heap.size + 1 + 1 + 1, 6, none⟩ = false ∧
      MvInv w zs S H SE SR TE TR a l c (k + 1) ao4 d4 (w4.setCell ⟨w.heap.size + 1 + 1 + 1, 6, none⟩ (.slice ao4 (n + 1) d4)) := by
  subst hn
  have hrow : ∀ j, (Value.slice ao (pickK zs k).length d).ownBlock = some j → w.heap.size + 4 ≤ j := fun j hj => (h.own.lt j hj).1
  have hne : ∀ j, j < w.heap.size + 4 → some j ≠ (Value.slice ao (pickK zs k).length d).ownBlock := fun j hj e => by have := hrow j e.symm; omega
  have hbl : ∀ j, j < w.heap.size + 4 → w4.heap[j]? = wr.heap[j]? := fun j hj => by
    rw [hg.block j (by have := h.size; simp; omega) (hne j hj)]
    exact Below.heap_alloc _ _ _ (by have := h.size; omega)
  have hcell : ∀ b i, b < w.heap.size + 4 → w4.cell? ⟨b, i, none⟩ = wr.cell? ⟨b, i, none⟩ := fun b i hb => World.cell?_of_block (a := ⟨b, i, none⟩) (hbl b hb)
  have hfroz : ∀ b i, b < w.heap.size + 4 → w4.frozen? ⟨b, i, none⟩ = wr.frozen? ⟨b, i, none⟩ := fun b i hb => World.frozen?_of_block (a := ⟨b, i, none⟩) (hbl b hb)
  have e0 : w4.cell? ⟨w.heap.size + 1 + 1 + 1, 6, none⟩ = some (.slice ao (pickK zs k).length d) := (hcell _ _ (by omega)).trans h.c6
  have hlen : (pickK zs (k + 1)).length = (pickK zs k).length + 1 := by rw [hy]; simp
  refine ⟨e0, (hfroz _ _ (by omega)).trans (h.f 6), ?_⟩
  constructor
  case v6 => rw [World.cell?_setCell_other _ _ _ _ (by simp), hcell _ _ (by omega)]; exact h.v6
  case c6 => rw [World.cell?_setCell_same _ _ _ e0, hlen]
  case c0 => rw [World.cell?_setCell_other _ _ _ _ (by simp), hcell _ _ (by omega)]; exact h.c0
  case c1 => rw [World.cell?_setCell_other _ _ _ _ (by simp), hcell _ _ (by omega)]; exact h.c1
  case c2 => rw [World.cell?_setCell_other _ _ _ _ (by simp), hcell _ _ (by omega)]; exact h.c2
  case c3 => rw [World.cell?_setCell_other _ _ _ _ (by simp), hcell _ _ (by omega)]; exact h.c3
  case c4 => rw [World.cell?_setCell_other _ _ _ _ (by simp), hcell _ _ (by omega)]; exact h.c4
  case c5 => rw [World.cell?_setCell_other _ _ _ _ (by simp), hcell _ _ (by omega)]; exact h.c5
  case r => intro i hi; rw [World.cell?_setCell_other _ _ _ _ (by simp), hcell _ _ (by omega)]; exact h.r i hi
  case f => intro i; rw [World.frozen?_setCell, hfroz _ _ (by omega)]; exact h.f i
  case fr => intro i; rw [World.frozen?_setCell, hfroz _ _ (by omega)]; exact h.fr i
  case own => rw [hlen, hy]; exact ownsRow_setCell_below hown (by simp) _
  case bel => exact ((h.bel.alloc (by have := h.size; omega) o).grown hg (by have := h.size; simp; omega) (fun j hj => by have := hrow j hj; omega)).setCell (by simp; omega) _
  case size => have := hg.size; have := h.size; simp at *; omega

theorem MvInv.skip {w : World} {zs : List Int} {S H SE SR TE TR : Int} {a : Option Addr} {l c : Nat} {k : Nat} {ao : Option Addr} {d : Nat} {wr : World} (h : MvInv w zs S H SE SR TE TR a l c k ao d wr) (e : pickK zs (k + 1) = pickK zs k) : MvInv w zs S H SE SR TE TR a l c (k + 1) ao d wr :=
  ⟨h.v6, h.c0, h.c1, h.c2, h.c3, h.c4, h.c5, by rw [e]; exact h.c6, h.r, h.f, h.fr, by rw [e]; exact h.own, h.bel, h.size⟩

theorem mod8 {x : Int} (h : 0 ≤ x ∧ x ≤ 18446744073709551615) : x.tmod 8 = x % 8 ∧ IntKind.u64.wrap (x % 8) = x % 8 := by
  refine ⟨Int.tmod_eq_emod_of_nonneg h.1, ?_⟩
  rw [IntKind.wrap_u64]
  omega

set_option maxRecDepth 100000 in
set_option maxHeartbeats 2000000 in
theorem make5_new (zs : List Int) (ab : Option Addr) (lb cb : Nat) (slots boost : Int) (s h se sr te tr : Int) (a : Option Addr) (l c : Nat) (w : World) (hR : RowIn .i64 w a l c zs)
    (hlb : 1 ≤ lb ∧ lb ≤ 4096) (hS : 1 ≤ slots ∧ slots ≤ 64) (hs : -9223372036854775808 ≤ s ∧ s ≤ 9223372036854775807) (hh : 0 ≤ h ∧ h ≤ 18446744073709551615)
    (hse : -9223372036854775808 ≤ se ∧ se ≤ 9223372036854775807) (hsr : 0 ≤ sr ∧ sr ≤ 18446744073709551615) (htr : 0 ≤ tr ∧ tr ≤ 18446744073709551615) :
    Calls Try.prog 29 #[.agg #[.slice ab lb cb, .int .i64 slots, .int .i64 boost], .agg (vcells s h se sr te tr a l c)] w fun e w' =>
      ∃ ao d, e = .returned (.agg (vcells (s % 200) (h % 8) (se % (epo (s % 200) slots + 1)) (sr % 8) (epo (s % 200) slots) (tr % 8) ao (mvW lb zs).length d)) ∧ RowIn .i64 w' ao (mvW lb zs).length d (mvW lb zs) ∧ Below w.heap.size w w' ∧ (∀ b off, ao = some ⟨b, off, none⟩ → w.heap.size ≤ b) := by
  have hl := hR.len
  have hc := hR.cap
  unfold maxLen at hc
  have HR := hide hR
  clear hR
  obtain ⟨i0, hi, hz0, hz1, hz2⟩ := info_parts infoI
  obtain ⟨S, hS1⟩ : ∃ x, Hid (s % 200 = x) := ⟨_, rfl⟩
  have hSb : 0 ≤ S ∧ S < 200 := by rw [← hS1.out]; omega
  obtain ⟨T, hT⟩ : ∃ x, Hid (epo S slots = x) := ⟨_, rfl⟩
  have hTb : 0 ≤ T ∧ T < 200 := by
    rw [← hT.out, epo, lo0, if_neg (by omega), lo1, if_neg (by omega)]
    exact ⟨Int.ediv_nonneg hSb.1 (by omega), Int.lt_of_le_of_lt (Int.ediv_le_self _ hSb.1) hSb.2⟩
  obtain ⟨E, hE⟩ : ∃ x, Hid (se % (T + 1) = x) := ⟨_, rfl⟩
  have h8 := mod8 hh
  have s8 := mod8 hsr
  have t8 := mod8 htr
  obtain ⟨H, hH⟩ : ∃ x, Hid (h % 8 = x) := ⟨_, rfl⟩
  obtain ⟨SR, hSR⟩ : ∃ x, Hid (sr % 8 = x) := ⟨_, rfl⟩
  obtain ⟨TR, hTR⟩ : ∃ x, Hid (tr % 8 = x) := ⟨_, rfl⟩
  rw [hH.out] at h8
  rw [hSR.out] at s8
  rw [hTR.out] at t8
  obtain ⟨h8, h8'⟩ := h8
  obtain ⟨s8, s8'⟩ := s8
  obtain ⟨t8, t8'⟩ := t8
  have hw1 : IntKind.i64.wrap (T + 1) = T + 1 := by rw [IntKind.wrap_i64]; omega
  have hw2 : wrap64 (T + 1) = T + 1 := by unfold wrap64; omega
  go_enter Try.func29, Try.ntmps29
  go_wp2
  go_region_held3 (fun w' => w'.cell? ⟨w.heap.size + 1, 0, none⟩ = some (.int .i64 s) ∧ w'.cell? ⟨w.heap.size + 1, 1, none⟩ = some (.int .u64 h)) (go_keep)
    (first
      | (go_at_call 56
         refine (rest5_any _ 200 _ hs (by omega)).mono ?_
         rintro e w' ⟨rfl, hw⟩
         rw [hS1.out]
         obtain rfl : _ = w' := hw.symm))
  all_goals
    go_wp2
    go_region_held3 (fun w' => w'.cell? ⟨w.heap.size + 1 + 1 + 1, 0, none⟩ = some (.int .i64 S) ∧ w'.cell? ⟨w.heap.size, 1, none⟩ = some (.int .i64 slots) ∧ w'.cell? ⟨w.heap.size + 1, 5, none⟩ = some (.int .u64 tr)) (simp [*, go_sem, World.cell?_alloc_some])
      (first
        | (go_at_call 57
           refine (of_any _ _ _ (by omega) (by omega)).mono ?_
           rintro e w' ⟨rfl, hw⟩
           rw [hT.out]
           obtain rfl : _ = w' := hw.symm))
    go_wp2
    go_region_held3 (fun w' => w'.cell? ⟨w.heap.size + 1 + 1 + 1, 4, none⟩ = some (.int .i64 T) ∧ w'.cell? ⟨w.heap.size + 1, 2, none⟩ = some (.int .i64 se) ∧ w'.cell? ⟨w.heap.size + 1, 3, none⟩ = some (.int .u64 sr)) (simp [*, go_sem, World.cell?_alloc_some])
      (first
        | (go_at_call 56
           refine (rest5_any _ _ _ hse (by omega)).mono ?_
           rintro e w' ⟨rfl, hw⟩
           rw [hE.out]
           obtain rfl : _ = w' := hw.symm))
    go_wp2
    go_loopw [42] (fun i wr => ∃ (k : Nat) (ao : Option Addr) (d : Nat), k ≤ lb ∧ i = .int .i64 k ∧ Hid (MvInv w zs S H E SR T TR a l c k ao d wr)) (fun i _ => lb - (intOf i).toNat)
    case atStart =>
      refine ⟨0, none, 0, Nat.zero_le _, rfl, hide ?_⟩
      constructor
      case own => exact World.ownsRow_nil _ _ _ _
      case bel => exact (((((((Below.refl _ _).alloc (Nat.le_refl _) _).alloc (by simp) _).alloc (by simp <;> omega) _).alloc (by simp <;> omega) _).drew).drew).drew
      case r => intro i hi; match i, hi with | 0, _ => simp [go_sem] | 1, _ => simp [go_sem] | 2, _ => simp [go_sem] | 3, _ => simp [go_sem] | 4, _ => simp [go_sem] | 5, _ => simp [go_sem] | 6, _ => simp [go_sem]
      case f => intro i; simp [go_sem]
      case fr => intro i; simp [go_sem]
      case size => simp
      case c6 => simp [go_sem, pickK]
      all_goals simp [go_sem]
    case round =>
      obtain ⟨k, ao, d, hk, rfl, hI⟩ := hrel
      have v6 := hI.out.v6
      by_cases hlt : k < lb
      · have HR2 := hide (HR.out.below hI.out.bel)
        obtain ⟨b, hb⟩ : ∃ b, Hid (decide ((k : Int) ∈ zs) = b) := ⟨_, rfl⟩
        have c6 := hI.out.c6
        have f6 := hI.out.f 6
        obtain ⟨n, hn⟩ : ∃ n, Hid ((pickK zs k).length = n) := ⟨_, rfl⟩
        rw [hn.out] at c6
        have hnb : n ≤ 4096 := by
          have := pickK_len zs k
          rw [hn.out] at this
          omega
        have HO := hide hI.out.own
        rw [hn.out] at HO
        by_cases hin : (k : Int) ∈ zs ∨ ((k : Int) = 0 ∧ zs.length = 0)
        · have hpk := hide (pickK_in zs k hin)
          have hbb : b = true ∨ (b = false ∧ (k : Int) = 0 ∧ l = 0) := by
            rcases hin with h1 | ⟨h1, h2⟩
            · exact .inl (by rw [← hb.out]; exact decide_eq_true h1)
            · obtain rfl : zs = [] := List.eq_nil_of_length_eq_zero h2
              exact .inr ⟨by rw [← hb.out]; simp, h1, by rw [← hl]; rfl⟩
          clear hin
          go_wp2_with fail
          refine (has_any zs _ _ _ _ _ HR2.out).mono ?_
          rintro e w1 ⟨rfl, hw⟩
          obtain rfl : _ = w1 := hw.symm
          clear hw
          rw [hb.out]
          rcases hbb with rfl | ⟨rfl, hk0, hl0⟩
          · go_wp2_with (at_builtin; refine wpList_append_rows _ rfl (.tmp 60) (.tmp 62) 68 rfl (w.heap.size + 4) 3 i0 .i64 (.int .i64 0) 8 Try.underlying68 hi hz0 hz1 hz2 rfl (.slice ao n d) n (pickK zs k) rfl (HO.out.alloc _) (some ⟨wr.heap.size, 0, none⟩) 1 1 [_] rfl (RowIn.lit .i64 _ _ _ _ _ _ _ [_] rfl rfl rfl (by simp [maxLen])) ?g1 ?g2 ?g3 ?_)
            case g1 => unfold maxLen; omega
            case g2 => omega
            case g3 => have := hI.out.size; simp; omega
            intro ao4 d4 w4 hown4 hgrow4
            have hst := hI.out.step n hn.out (k : Int) hpk.out _ w4 ao4 d4 hgrow4 (by rw [List.map_append]; exact hown4)
            obtain ⟨e0, e1, hst⟩ := hst
            have HST := hide hst
            clear hst hown4 hgrow4 HO c6 f6
            go_wp2
            go_roundw
            case rel => exact ⟨k + 1, _, _, by omega, by go_num, HST⟩
            case measure => simp [intOf]; omega
          · have hk1 : ((k : Int) == 0) = true := by simp [hk0]
            have hl1 : ((l : Int) == 0) = true := by simp [hl0]
            have hk2 : decide ((k : Int) = 0) = true := by simp [hk0]
            have hl2 : decide ((l : Int) = 0) = true := by simp [hl0]
            clear hk0 hl0
            go_wp2_with (at_builtin; refine wpList_append_rows _ rfl (.tmp 60) (.tmp 62) 68 rfl (w.heap.size + 4) 3 i0 .i64 (.int .i64 0) 8 Try.underlying68 hi hz0 hz1 hz2 rfl (.slice ao n d) n (pickK zs k) rfl (HO.out.alloc _) (some ⟨wr.heap.size, 0, none⟩) 1 1 [_] rfl (RowIn.lit .i64 _ _ _ _ _ _ _ [_] rfl rfl rfl (by simp [maxLen])) ?g1 ?g2 ?g3 ?_)
            case g1 => unfold maxLen; omega
            case g2 => omega
            case g3 => have := hI.out.size; simp; omega
            intro ao4 d4 w4 hown4 hgrow4
            have hst := hI.out.step n hn.out (k : Int) hpk.out _ w4 ao4 d4 hgrow4 (by rw [List.map_append]; exact hown4)
            obtain ⟨e0, e1, hst⟩ := hst
            have HST := hide hst
            clear hst hown4 hgrow4 HO c6 f6
            go_wp2
            go_roundw
            case rel => exact ⟨k + 1, _, _, by omega, by go_num, HST⟩
            case measure => simp [intOf]; omega
        · have HST := hide (hI.out.skip (pickK_out zs k hin))
          have hbb : b = false := by rw [← hb.out]; exact decide_eq_false (fun h => hin (.inl h))
          have h01 : ¬ (k : Int) = 0 ∨ ¬ l = 0 := by
            by_cases h1 : (k : Int) = 0
            · exact .inr (fun h2 => hin (.inr ⟨h1, by rw [hl]; exact h2⟩))
            · exact .inl h1
          clear hin
          go_wp2_with fail
          refine (has_any zs _ _ _ _ _ HR2.out).mono ?_
          rintro e w1 ⟨rfl, hw⟩
          obtain rfl : _ = w1 := hw.symm
          clear hw
          rw [hb.out]
          subst hbb
          by_cases hk0 : (k : Int) = 0
          · have hl0 : ¬ l = 0 := by
              rcases h01 with h | h
              · exact absurd hk0 h
              · exact h
            clear h01
            go_wp2
            go_roundw
            case rel => exact ⟨k + 1, _, _, by omega, by go_num, HST⟩
            case measure => simp [intOf]; omega
          · clear h01
            go_wp2
            go_roundw
            case rel => exact ⟨k + 1, _, _, by omega, by go_num, HST⟩
            case measure => simp [intOf]; omega
      · have : k = lb := by omega
        subst this
        obtain ⟨v0, r0⟩ := hI.out.r 0 (by omega)
        obtain ⟨v1, r1⟩ := hI.out.r 1 (by omega)
        obtain ⟨v2, r2⟩ := hI.out.r 2 (by omega)
        obtain ⟨v3, r3⟩ := hI.out.r 3 (by omega)
        obtain ⟨v4, r4⟩ := hI.out.r 4 (by omega)
        obtain ⟨v5, r5⟩ := hI.out.r 5 (by omega)
        obtain ⟨v7, r6⟩ := hI.out.r 6 (by omega)
        have c0 := hI.out.c0
        have c1 := hI.out.c1
        have c2 := hI.out.c2
        have c3 := hI.out.c3
        have c4 := hI.out.c4
        have c5 := hI.out.c5
        have c6 := hI.out.c6
        have f6 := hI.out.f 6
        have g0 := hI.out.fr 0
        have g1 := hI.out.fr 1
        have g2 := hI.out.fr 2
        have g3 := hI.out.fr 3
        have g4 := hI.out.fr 4
        have g5 := hI.out.fr 5
        have g6 := hI.out.fr 6
        have hsz := hI.out.size
        have hs1 : w.heap.size + 1 < wr.heap.size := by omega
        have hs2 : w.heap.size + 1 + 1 < wr.heap.size := by omega
        have hs3 : w.heap.size + 1 + 1 + 1 < wr.heap.size := by omega
        by_cases h0 : pickK zs k = []
        · have hm : mvW k zs = [0] := by rw [mvW, if_pos h0]
          rw [h0] at c6
          go_wp2
          refine bodyPost_ret (v := .agg (vcells S H E SR T TR (some ⟨wr.heap.size, 0, none⟩) 1 1)) (by simp [results, Try.results29, go_sem, *]) rfl ⟨_, _, by rw [hm, hS1.out, hT.out, hE.out, hH.out, hSR.out, hTR.out]; rfl, ?_, ?_, fun b off e => by cases e; omega⟩
          · rw [hm]
            exact RowIn.lit .i64 _ _ _ _ _ 1 1 [0] (by simp) rfl rfl (by simp [maxLen])
          · exact (((((((((hI.out.bel.setCell (by simp; omega) _).setCell (by show w.heap.size ≤ w.heap.size + 1 + 1; omega) _).setCell (by show w.heap.size ≤ w.heap.size + 1 + 1; omega) _).setCell (by show w.heap.size ≤ w.heap.size + 1 + 1; omega) _).setCell (by show w.heap.size ≤ w.heap.size + 1 + 1; omega) _).setCell (by show w.heap.size ≤ w.heap.size + 1 + 1; omega) _).setCell (by show w.heap.size ≤ w.heap.size + 1 + 1; omega) _).setCell (by show w.heap.size ≤ w.heap.size + 1 + 1; omega) _).alloc (by simp; omega) _)
        · have hm : mvW k zs = pickK zs k := by rw [mvW, if_neg h0]
          have hown := hI.out.own
          obtain ⟨n, hn⟩ : ∃ n, Hid ((pickK zs k).length = n) := ⟨_, rfl⟩
          have hn0 : ¬ n = 0 := by
            have := List.length_pos_iff.2 h0
            rw [hn.out] at this
            omega
          rw [hn.out] at c6 hown
          have HO := hide hown
          clear hown
          go_wp2
          refine bodyPost_ret (v := .agg (vcells S H E SR T TR ao n d)) (by simp [results, Try.results29, go_sem, *]) rfl ⟨ao, d, by rw [hm, hn.out, hS1.out, hT.out, hE.out, hH.out, hSR.out, hTR.out], ?_, ?_, fun b off e => by subst e; have := (HO.out.lt b rfl).1; omega⟩
          · rw [hm, hn.out]
            have hO7 := ownsRow_setCell_below (ownsRow_setCell_below (ownsRow_setCell_below (ownsRow_setCell_below (ownsRow_setCell_below (ownsRow_setCell_below (ownsRow_setCell_below HO.out (a := ⟨w.heap.size + 1 + 1, 0, none⟩) (by simp) (.int .i64 S)) (a := ⟨w.heap.size + 1 + 1, 1, none⟩) (by simp) (.int .u64 H)) (a := ⟨w.heap.size + 1 + 1, 2, none⟩) (by simp) (.int .i64 E)) (a := ⟨w.heap.size + 1 + 1, 3, none⟩) (by simp) (.int .u64 SR)) (a := ⟨w.heap.size + 1 + 1, 4, none⟩) (by simp) (.int .i64 T)) (a := ⟨w.heap.size + 1 + 1, 5, none⟩) (by simp) (.int .u64 TR)) (a := ⟨w.heap.size + 1 + 1, 6, none⟩) (by simp) (.slice ao n d)
            obtain ⟨ao', c', e', R⟩ := RowIn.ofOwned hO7
            cases e'
            exact R
          · exact ((((((hI.out.bel.setCell (by show w.heap.size ≤ w.heap.size + 1 + 1; omega) _).setCell (by show w.heap.size ≤ w.heap.size + 1 + 1; omega) _).setCell (by show w.heap.size ≤ w.heap.size + 1 + 1; omega) _).setCell (by show w.heap.size ≤ w.heap.size + 1 + 1; omega) _).setCell (by show w.heap.size ≤ w.heap.size + 1 + 1; omega) _).setCell (by show w.heap.size ≤ w.heap.size + 1 + 1; omega) _).setCell (by show w.heap.size ≤ w.heap.size + 1 + 1; omega) _
theorem make5_any (zs : List Int) (ab : Option Addr) (lb cb : Nat) (slots boost : Int) (s h se sr te tr : Int) (a : Option Addr) (l c : Nat) (w : World) (hR : RowIn .i64 w a l c zs)
    (hlb : 1 ≤ lb ∧ lb ≤ 4096) (hS : 1 ≤ slots ∧ slots ≤ 64) (hs : -9223372036854775808 ≤ s ∧ s ≤ 9223372036854775807) (hh : 0 ≤ h ∧ h ≤ 18446744073709551615)
    (hse : -9223372036854775808 ≤ se ∧ se ≤ 9223372036854775807) (hsr : 0 ≤ sr ∧ sr ≤ 18446744073709551615) (htr : 0 ≤ tr ∧ tr ≤ 18446744073709551615) :
    Calls Try.prog 29 #[.agg #[.slice ab lb cb, .int .i64 slots, .int .i64 boost], .agg (vcells s h se sr te tr a l c)] w fun e w' =>
      ∃ ao d, e = .returned (.agg (vcells (s % 200) (h % 8) (se % (epo (s % 200) slots + 1)) (sr % 8) (epo (s % 200) slots) (tr % 8) ao (mvW lb zs).length d)) ∧ RowIn .i64 w' ao (mvW lb zs).length d (mvW lb zs) ∧ Below w.heap.size w w' :=
  (make5_new zs ab lb cb slots boost s h se sr te tr a l c w hR hlb hS hs hh hse hsr htr).mono fun e w' ⟨ao, d, h1, h2, h3, _⟩ => ⟨ao, d, h1, h2, h3⟩
end Go.Proofs.Ytphahkjjmomjcaa

/- A tree's roots in order, and its kids among them: plain facts. -/
import Derived.Test.YtphahkjjmomjcaaDoorTRoots

import Derived.Test.YtphahkjjmomjcaaDoorNdAdd

namespace Go.Proofs.YtphahkjjmomjcaaDoor

open Go.RowKit

set_option linter.unusedVariables false

theorem rise_ext : ∀ (xs ys : List Int), xs.Pairwise (· < ·) → ys.Pairwise (· < ·) → (∀ x, x ∈ xs ↔ x ∈ ys) → xs = ys
  | [], [], _, _, _ => rfl
  | [], y :: ys, _, _, h => by have := (h y).2 (by simp); cases this
  | x :: xs, [], _, _, h => by have := (h x).1 (by simp); cases this
  | x :: xs, y :: ys, hx, hy, h => by
    rw [List.pairwise_cons] at hx hy
    have e : x = y := by
      have h1 := (h x).1 (by simp)
      have h2 := (h y).2 (by simp)
      rcases List.mem_cons.1 h1 with e | h1
      · exact e
      · rcases List.mem_cons.1 h2 with e | h2
        · exact e.symm
        · have := hy.1 x h1
          have := hx.1 y h2
          omega
    subst e
    rw [rise_ext xs ys hx.2 hy.2 (fun z => ?_)]
    constructor
    · intro hz
      rcases List.mem_cons.1 ((h z).1 (by simp [hz])) with e | h1
      · have := hx.1 z hz; omega
      · exact h1
    · intro hz
      rcases List.mem_cons.1 ((h z).2 (by simp [hz])) with e | h1
      · have := hy.1 z hz; omega
      · exact h1
/-- the roots, rising -/
def RR (bs : List TBlk) : List Int := rise (rts bs)
theorem RR_len (bs : List TBlk) : (RR bs).length = bs.length := by rw [RR, rise_len]; simp [rts]
theorem RR_rise {bs : List TBlk} (h : TOk bs) : (RR bs).Pairwise (· < ·) := by
  have h1 := rise_le (rts bs)
  have h2 : (rise (rts bs)).Nodup := (rise_perm (rts bs)).nodup_iff.2 (rts_nodup h)
  have h3 := List.Pairwise.and h1 h2
  exact h3.imp (fun {a b} hab => by have := hab.1; have := hab.2; omega)
theorem RR_mem {bs : List TBlk} {x : Int} : x ∈ RR bs ↔ ∃ q, q < bs.length ∧ (tb bs q).root = x := by
  rw [RR, (rise_perm (rts bs)).mem_iff]
  simp only [rts, List.mem_map]
  constructor
  · rintro ⟨t, ht, e⟩
    obtain ⟨q, hq, rfl⟩ := List.getElem_of_mem ht
    exact ⟨q, hq, by rw [tb_lt hq]; exact e⟩
  · rintro ⟨q, hq, e⟩
    exact ⟨bs[q], List.getElem_mem hq, by rw [← tb_lt hq]; exact e⟩
theorem getD_at {xs : List Int} {k : Nat} (h : k < xs.length) : xs.getD k 0 = xs[k] := by rw [List.getD_eq_getElem?_getD, List.getElem?_eq_getElem h]; rfl
theorem RR_lt {bs : List TBlk} (h : TOk bs) {j k : Nat} (hjk : j < k) (hk : k < bs.length) : (RR bs).getD j 0 < (RR bs).getD k 0 := by
  rw [getD_at (by rw [RR_len]; omega), getD_at (by rw [RR_len]; exact hk)]
  exact List.pairwise_iff_getElem.1 (RR_rise h) j k (by rw [RR_len]; omega) (by rw [RR_len]; exact hk) hjk
theorem RR_at {bs : List TBlk} (h : TOk bs) {k : Nat} (hk : k < bs.length) : ∃ q, q < bs.length ∧ (tb bs q).root = (RR bs).getD k 0 ∧ idx bs ((RR bs).getD k 0) = some q := by
  obtain ⟨q, hq, e⟩ := RR_mem.1 (show (RR bs).getD k 0 ∈ RR bs by rw [getD_at (by rw [RR_len]; exact hk)]; exact List.getElem_mem _)
  exact ⟨q, hq, e, by rw [← e]; exact idx_of h hq⟩
/-- does it stand on that one at once? -/
def kidB (bs : List TBlk) (i : Nat) (x : Int) : Bool := match idx bs x with
  | some p => decide (0 < p ∧ (tb bs p).par = i)
  | none => false
theorem kidB_some {bs : List TBlk} {i : Nat} {x : Int} {p : Nat} (h : idx bs x = some p) : kidB bs i x = decide (0 < p ∧ (tb bs p).par = i) := by unfold kidB; rw [h]
theorem kids_are {bs : List TBlk} (h : TOk bs) {i : Nat} (hi : i < bs.length) : (RR bs).filter (kidB bs i) = (tb bs i).kids := by
  refine rise_ext _ _ ((RR_rise h).filter _) (h.kr i hi) (fun x => ?_)
  rw [List.mem_filter, RR_mem, h.km i hi x]
  constructor
  · rintro ⟨⟨q, hq, rfl⟩, hk⟩
    rw [kidB_some (idx_of h hq)] at hk
    obtain ⟨h0, hp⟩ := of_decide_eq_true hk
    exact ⟨q, h0, hq, hp, rfl⟩
  · rintro ⟨j, h0, hj, hp, rfl⟩
    exact ⟨⟨j, hj, rfl⟩, by rw [kidB_some (idx_of h hj)]; exact decide_eq_true ⟨h0, hp⟩⟩
/-- how many of the first k -/
def cntK (bs : List TBlk) (i k : Nat) : Nat := (((RR bs).take k).filter (kidB bs i)).length
theorem cntK_step {bs : List TBlk} {i k : Nat} (hk : k < bs.length) : (kidB bs i ((RR bs).getD k 0) = true → cntK bs i (k + 1) = cntK bs i k + 1) ∧ (kidB bs i ((RR bs).getD k 0) = false → cntK bs i (k + 1) = cntK bs i k) := by
  have hk' : k < (RR bs).length := by rw [RR_len]; exact hk
  unfold cntK
  rw [List.take_succ_eq_append_getElem hk', List.filter_append, List.length_append, getD_at hk']
  refine ⟨fun h => ?_, fun h => ?_⟩
  · rw [List.filter_cons_of_pos h]; simp
  · rw [List.filter_cons_of_neg (by simp [h])]; simp
theorem cntK_at {bs : List TBlk} (h : TOk bs) {i k : Nat} (hi : i < bs.length) (hk : k < bs.length) (hx : kidB bs i ((RR bs).getD k 0) = true) : cntK bs i k < (tb bs i).kids.length ∧ (tb bs i).kids.getD (cntK bs i k) 0 = (RR bs).getD k 0 := by
  have hk' : k < (RR bs).length := by rw [RR_len]; exact hk
  have e : (tb bs i).kids = ((RR bs).take k).filter (kidB bs i) ++ (RR bs).getD k 0 :: ((RR bs).drop (k + 1)).filter (kidB bs i) := by
    rw [← kids_are h hi]
    conv => lhs; rw [← List.take_append_drop k (RR bs), List.filter_append, List.drop_eq_getElem_cons hk']
    rw [getD_at hk'] at hx ⊢
    rw [List.filter_cons_of_pos hx]
  rw [e]
  unfold cntK
  refine ⟨by simp, ?_⟩
  rw [List.getD_eq_getElem?_getD, List.getElem?_append_right (Nat.le_refl _)]
  simp
theorem cntK_all {bs : List TBlk} (h : TOk bs) {i : Nat} (hi : i < bs.length) : cntK bs i bs.length = (tb bs i).kids.length := by
  unfold cntK
  rw [List.take_of_length_le (by rw [RR_len]; exact Nat.le_refl _), kids_are h hi]
theorem cntK_le {bs : List TBlk} (i k : Nat) (hk : k ≤ bs.length) : cntK bs i k ≤ k := by
  unfold cntK
  have h1 := List.length_filter_le (kidB bs i) ((RR bs).take k)
  rw [List.length_take] at h1
  omega
end Go.Proofs.YtphahkjjmomjcaaDoor

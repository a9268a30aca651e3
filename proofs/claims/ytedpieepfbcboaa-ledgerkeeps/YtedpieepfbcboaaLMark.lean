/- Who has voted, twice and in either order; a vote for epoch 0 that counts. -/
import Derived.Test.YtedpieepfbcboaaLPure

namespace Go.Proofs.Ytedpieepfbcboaa

open Go.ChangeShapes Go.WideShapes Go.ChangeAt Go.RowKit

set_option linter.unusedVariables false

theorem mark_get (i : Nat) : ∀ (who : List Int) (vs : List Bool), (∀ x ∈ who, 0 ≤ x ∧ x < vs.length) → (mark vs who)[i]? = if i < vs.length then some (vs.getD i false || decide ((i : Int) ∈ who)) else none
  | [], vs, _ => by
    unfold mark
    rw [List.foldl_nil]
    split
    · rename_i h
      simp [List.getD_eq_getElem?_getD, List.getElem?_eq_getElem h]
    · rename_i h
      exact List.getElem?_eq_none (by omega)
  | v :: who, vs, h => by
    have hv := h v (by simp)
    show (mark (vs.set v.toNat true) who)[i]? = _
    rw [mark_get i who (vs.set v.toNat true) (fun x hx => by rw [List.length_set]; exact h x (by simp [hx])), List.length_set]
    split
    · rename_i hi
      congr 1
      rw [List.getD_eq_getElem?_getD, List.getElem?_set]
      by_cases e : v.toNat = i
      · rw [if_pos e, if_pos (by omega)]
        have : (i : Int) = v := by omega
        simp [this]
      · rw [if_neg e, ← List.getD_eq_getElem?_getD]
        have : ¬ (i : Int) = v := by omega
        simp [this]
    · rfl
theorem mark_comm (vs : List Bool) (xs ys : List Int) (hx : ∀ x ∈ xs, 0 ≤ x ∧ x < vs.length) (hy : ∀ x ∈ ys, 0 ≤ x ∧ x < vs.length) : mark (mark vs xs) ys = mark (mark vs ys) xs := by
  apply List.ext_getElem?
  intro i
  rw [mark_get i ys _ (by rw [mark_len]; exact hy), mark_get i xs _ (by rw [mark_len]; exact hx), mark_len, mark_len, List.getD_eq_getElem?_getD, List.getD_eq_getElem?_getD, mark_get i xs vs hx, mark_get i ys vs hy]
  split
  · simp [Bool.or_comm]
    exact Bool.or_left_comm _ _ _
  · rfl
theorem mark_twice (vs : List Bool) (xs : List Int) (hx : ∀ x ∈ xs, 0 ≤ x ∧ x < vs.length) : mark (mark vs xs) xs = mark vs xs := by
  apply List.ext_getElem?
  intro i
  rw [mark_get i xs _ (by rw [mark_len]; exact hx), mark_len, List.getD_eq_getElem?_getD, mark_get i xs vs hx]
  split
  · simp
  · rfl
/-- a vote of epoch 0 for the chain's own checkpoint counts, where nothing but the first block is justified -/
theorem cnt_fix (n : Nat) (s : Int) (f : Int → Int) (S : LS) (h : Int) (who : List Int) (h0 : S.e = 0) (hc : S.j.ce = 0) (hs : 1 ≤ s) (hw : whoB who n = true) :
    cntB n s f S ⟨0, h, S.j.ce, S.j.cr, 0, f (stI 0 s), who⟩ = true ∧ cntS n s f S ⟨0, h, S.j.ce, S.j.cr, 0, f (stI 0 s), who⟩ = ⟨S.j, S.e, S.bf, mark S.nw who⟩ := by
  have e0 : epo 0 s = 0 := by unfold epo lo0; simp
  have h1 : isNow S ⟨0, h, S.j.ce, S.j.cr, 0, f (stI 0 s), who⟩ = true := by
    show (decide _ && decide _) = true
    rw [decide_eq_true (show (0 : Int) = S.e from h0.symm), decide_eq_true (And.intro rfl rfl)]
    rfl
  have hb : cntB n s f S ⟨0, h, S.j.ce, S.j.cr, 0, f (stI 0 s), who⟩ = true := by
    unfold cntB VV.right onPoint
    rw [h1]
    show (whoB who n && timesB 0 S.j.ce 0 s && decide (0 = lo0 0 ∧ f (stI 0 s) = f (stI 0 s)) && _) = true
    rw [hw, show timesB 0 S.j.ce 0 s = true from decide_eq_true ⟨by omega, by omega, by omega, e0.symm⟩, decide_eq_true (And.intro (show (0 : Int) = lo0 0 from rfl) rfl)]
    rfl
  refine ⟨hb, ?_⟩
  unfold cntS
  rw [if_pos hb, if_pos h1]
end Go.Proofs.Ytedpieepfbcboaa

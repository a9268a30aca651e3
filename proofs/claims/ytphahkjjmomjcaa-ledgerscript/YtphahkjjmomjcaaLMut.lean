/- Rows of bools of the call's own that are written in place. -/
import Derived.Test.YtphahkjjmomjcaaLFun3

namespace Go.Proofs.Ytphahkjjmomjcaa

open Go.ChangeShapes Go.WideShapes Go.ChangeAt Go.RowKit

set_option linter.unusedVariables false

/-- a row of bools that may be written -/
structure MRow (w : World) (g n c : Nat) (vs : List Bool) : Prop where
  lt : g < w.heap.size
  at_ : ∃ C t, w.heap[g]? = some (.cells C t (0, 0)) ∧ n ≤ C.size ∧ ∀ i, i < n → C[i]? = some (.bool (vs.getD i false))
  len : vs.length = n
  cap : n ≤ c ∧ c ≤ maxLen
theorem MRow.below {w w' : World} {g n c : Nat} {vs : List Bool} (h : MRow w g n c vs) (hb : Below w.heap.size w w') : MRow w' g n c vs := by
  obtain ⟨C, t, h1, h2, h3⟩ := h.at_
  exact ⟨Nat.lt_of_lt_of_le h.lt hb.size, ⟨C, t, (hb.block g h.lt).trans h1, h2, h3⟩, h.len, h.cap⟩
theorem MRow.aside {w w' : World} {g n c r : Nat} {vs : List Bool} (h : MRow w g n c vs) (ha : Apart r w w') (hr : g ≠ r) : MRow w' g n c vs := by
  obtain ⟨C, t, h1, h2, h3⟩ := h.at_
  exact ⟨Nat.lt_of_lt_of_le h.lt ha.size, ⟨C, t, (ha.block g h.lt hr).trans h1, h2, h3⟩, h.len, h.cap⟩
theorem MRow.row {w : World} {g n c : Nat} {vs : List Bool} (h : MRow w g n c vs) : RowB w (some ⟨g, 0, none⟩) n c vs := by
  obtain ⟨C, t, h1, h2, h3⟩ := h.at_
  exact ⟨h.len, fun h => (by cases h), fun i hi => ⟨g, 0, rfl, h.lt, by rw [Nat.zero_add, cell_of_row w g i C t _ h1]; exact h3 i hi⟩, h.cap⟩
theorem MRow.cell {w : World} {g n c : Nat} {vs : List Bool} (h : MRow w g n c vs) (i : Nat) (hi : i < n) : w.cell? ⟨g, i, none⟩ = some (.bool (vs.getD i false)) := by
  obtain ⟨C, t, h1, h2, h3⟩ := h.at_
  rw [cell_of_row w g i C t _ h1]
  exact h3 i hi
theorem MRow.soft {w : World} {g n c : Nat} {vs : List Bool} (h : MRow w g n c vs) (i : Nat) : w.frozen? ⟨g, i, none⟩ = false := by
  obtain ⟨C, t, h1, h2, h3⟩ := h.at_
  unfold World.frozen?
  rw [h1]
  simp
theorem MRow.set {w : World} {g n c : Nat} {vs : List Bool} (h : MRow w g n c vs) (k : Nat) (x : Bool) (hk : k < n) : MRow (w.setCell ⟨g, k, none⟩ (.bool x)) g n c (vs.set k x) := by
  obtain ⟨C, t, h1, h2, h3⟩ := h.at_
  have hl := h.len
  refine ⟨by simpa [World.setCell] using h.lt, ⟨_, t, set_obj h1 k _, by simpa using h2, fun i hi => ?_⟩, by rw [List.length_set]; exact h.len, h.cap⟩
  by_cases e : i = k
  · subst e
    rw [Array.getElem?_setIfInBounds_self_of_lt (by omega)]
    simp [List.getD_eq_getElem?_getD, List.getElem?_set_self (show i < vs.length by omega)]
  · rw [Array.getElem?_setIfInBounds_ne (fun h => e h.symm), h3 i hi]
    simp [List.getD_eq_getElem?_getD, List.getElem?_set_ne (fun h => e h.symm)]
theorem MRow.ofOwned {w : World} {base e n c : Nat} {v : Option Addr} {vs : List Bool} (h : w.ownsRow base e 1 (.slice v n c) n (vs.map Value.bool)) (hn : 0 < n) : ∃ g, v = some ⟨g, 0, none⟩ ∧ base ≤ g ∧ MRow w g n c vs := by
  have hl : vs.length = n := by have := h.1; simpa using this
  rcases h.2 with ⟨h0, _⟩ | ⟨g, cap, cur, h1, hb, hg, hnc, hcm, hcs, htk⟩
  · simp at h0
    omega
  · simp only [Value.slice.injEq, true_and] at h1
    obtain ⟨rfl, rfl⟩ := h1
    have hlt := (h.lt g rfl).2
    refine ⟨g, rfl, hb, hlt, ⟨cur, e, hg, by omega, fun i hi => ?_⟩, hl, hnc, hcm⟩
    have hc := h.cellAt i (by omega)
    rw [cell_of_row w g i cur e _ hg] at hc
    rw [hc]
    exact getB vs hl i hi
end Go.Proofs.Ytphahkjjmomjcaa

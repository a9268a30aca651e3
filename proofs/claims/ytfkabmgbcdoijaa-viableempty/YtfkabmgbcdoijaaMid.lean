/- A whole struct that is loaded, or laid into a variable of its own: the runs' equations, for the walk to use as rules. -/
import Derived.Test.YtfkabmgbcdoijaaEvents

import Derived.Test.YtfkabmgbcdoijaaObjs

import Derived.WalkKit

import Derived.Deep.MidRow

namespace Go.Proofs.Ytfkabmgbcdoijaa

open Go.ChangeShapes Go.WideShapes Go.RowKit

set_option linter.unusedVariables false

theorem VoteC.one {w : World} {cs : List Value} {v : Vt} (h : VoteC w cs v) : (∀ x ∈ cs, x.oneCell' = true) ∧ cs.length = 7 := by
  obtain ⟨_, ao, l, c, rfl, _⟩ := h
  refine ⟨?_, rfl⟩
  intro x hx
  simp only [List.mem_cons, List.not_mem_nil, or_false] at hx
  rcases hx with rfl | rfl | rfl | rfl | rfl | rfl | rfl <;> rfl
theorem ProofC.one {w : World} {cs : List Value} {v : Pf} (h : ProofC w cs v) : (∀ x ∈ cs, x.oneCell' = true) ∧ cs.length = 14 := by
  obtain ⟨x, y, rfl, h1, h2⟩ := h
  refine ⟨fun z hz => ?_, by rw [List.length_append, h1.one.2, h2.one.2]⟩
  rcases List.mem_append.1 hz with h | h
  · exact h1.one.1 z h
  · exact h2.one.1 z h
theorem BlockC.one {w : World} {cs : List Value} {v : Bk} (h : BlockC w cs v) : (∀ x ∈ cs, x.oneCell' = true) ∧ cs.length = 5 := by
  obtain ⟨_, ao, l, c, ao2, l2, c2, rfl, _⟩ := h
  refine ⟨?_, rfl⟩
  intro x hx
  simp only [List.mem_cons, List.not_mem_nil, or_false] at hx
  rcases hx with rfl | rfl | rfl | rfl | rfl <;> rfl
theorem EventC.one {w : World} {cs : List Value} {v : Ev} (h : EventC w cs v) : (∀ x ∈ cs, x.oneCell' = true) ∧ cs.length = 28 := by
  obtain ⟨_, x, y, z, rfl, h1, h2, h3⟩ := h
  refine ⟨fun u hu => ?_, by simp [h1.one.2, h2.one.2, h3.one.2]⟩
  simp only [List.mem_cons, List.mem_append] at hu
  rcases hu with rfl | rfl | h | h | h
  · rfl
  · rfl
  · exact h1.one.1 u h
  · exact h2.one.1 u h
  · exact h3.one.1 u h
end Go.Proofs.Ytfkabmgbcdoijaa

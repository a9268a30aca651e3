/- Plain facts on which checkpoint is final. -/
import Derived.Test.YtcajinccnnmlgaaJAwake

namespace Go.Proofs.Ytcajinccnnmlgaa

open Go.ChangeShapes Go.WideShapes Go.ChangeAt Go.RowKit

set_option linter.unusedVariables false

theorem finI_same (b0 b1 b2 b3 : Bool) (pe ce e x : Int) : finI b0 b1 b2 b3 pe ce e x x x = x := by
  unfold finI
  cases way1 b0 b1 ce e <;> cases way2 b0 b1 b2 ce e <;> cases way3 b1 b2 pe e <;> cases way4 b1 b2 b3 pe e <;> rfl
theorem finI_one (b2 b3 : Bool) (pe ce e p c f : Int) (h : ce = wrap64 (e - 1)) : finI true true b2 b3 pe ce e p c f = c := by
  have : way1 true true ce e = true := by simp [way1, h]
  rw [finI, this]
  rfl
theorem finI_four (pe ce e p c f : Int) (h3 : ¬ pe = wrap64 (e - 2)) (h4 : pe = wrap64 (e - 3)) : finI false true true true pe ce e p c f = p := by
  have e3 : way3 true true pe e = false := by simp [way3, h3]
  have e4 : way4 true true true pe e = true := by simp [way4, h4]
  rw [finI, e3, e4]
  rfl
/-- one of the three -/
theorem finI_of (b0 b1 b2 b3 : Bool) (pe ce e p c f : Int) : finI b0 b1 b2 b3 pe ce e p c f = c ∨ finI b0 b1 b2 b3 pe ce e p c f = p ∨ finI b0 b1 b2 b3 pe ce e p c f = f := by
  unfold finI
  cases way1 b0 b1 ce e <;> cases way2 b0 b1 b2 ce e <;> cases way3 b1 b2 pe e <;> cases way4 b1 b2 b3 pe e <;> simp
theorem wf8j {a : Int} (h : (Lit.int .u8 a).wf = true) : 0 ≤ a ∧ a ≤ 255 := by
  simpa [Lit.wf, IntKind.min, IntKind.max, IntKind.signed, IntKind.bits] using h
theorem rem50 {a : Int} (h : 0 ≤ a ∧ a ≤ 255) : ∃ A : Int, a.tmod 50 = A ∧ 0 ≤ A ∧ A ≤ 49 :=
  ⟨_, rfl, Int.tmod_nonneg _ h.1, by have := Int.tmod_lt_of_pos a (show (0 : Int) < 50 by omega); omega⟩
/-- the state ahead of epoch x where all vote in time; where all votes come an epoch late -/
def invA (a x : Int) (b0 b1 b2 b3 : Bool) (pe pr ce cr fe fr : Int) : Prop :=
  (x = 2 → pe = 0 ∧ pr = 1 ∧ ce = 0 ∧ cr = 1 ∧ fe = 0 ∧ fr = 1) ∧ (3 ≤ x → b0 = true ∧ b1 = true ∧ ce = x - 1 ∧ cr = a) ∧ (x = 3 → fe = 0 ∧ fr = 1) ∧ (4 ≤ x → fe = x - 2 ∧ fr = a)
def invL (a x : Int) (b0 b1 b2 b3 : Bool) (pe pr ce cr fe fr : Int) : Prop :=
  (x = 2 → pe = 0 ∧ pr = 1 ∧ ce = 0 ∧ cr = 1 ∧ fe = 0 ∧ fr = 1) ∧ (3 ≤ x → b0 = false ∧ b1 = true ∧ ce = x - 2 ∧ cr = a) ∧ (4 ≤ x → b2 = true ∧ pe = x - 3 ∧ pr = a) ∧ (5 ≤ x → b3 = true ∧ fe = x - 4 ∧ fr = a)
end Go.Proofs.Ytcajinccnnmlgaa

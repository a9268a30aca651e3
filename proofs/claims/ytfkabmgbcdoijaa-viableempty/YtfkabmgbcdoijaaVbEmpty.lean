/- One block alone: plain facts. -/
import Derived.Test.YtfkabmgbcdoijaaVbRange

namespace Go.Proofs.Ytfkabmgbcdoijaa

open Go.ChangeShapes Go.WideShapes Go.ChangeAt Go.RowKit Go.Maps

set_option linter.unusedVariables false

def src1 (r x : Int) : Option Nat := if x = r then some 3 else none
theorem one_may {r s : Int} (h : TOk (tOne r s)) (ok : Int → Bool) : ldR (tOne r s) ok r = ok r := by
  have h0 : (0 : Nat) < (tOne r s).length := by simp [tOne]
  have h1 : ldR (tOne r s) ok (tb (tOne r s) 0).root = ldB (tOne r s) ok 0 := ldR_of h ok h0
  rw [show (tb (tOne r s) 0).root = r from rfl] at h1
  rw [h1, ldB_all h ok h0]
  simp [lf, tb, tOne, anyM]
theorem one_below {r s x : Int} (h : TOk (tOne r s)) : belowB (tOne r s) r x = (r == x) := by
  by_cases e : r = x
  · subst e
    rw [belowB_self]
    have := idx_of h (i := 0) (by simp [tOne])
    rw [show (tb (tOne r s) 0).root = r from rfl] at this
    rw [this]; simp
  · have h1 : idx (tOne r s) x = none := by
      cases hx : idx (tOne r s) x with
      | none => rfl
      | some t =>
        obtain ⟨ht, hr⟩ := idx_some hx
        have : t = 0 := by simp [tOne] at ht; exact ht
        subst this
        exact absurd hr e
    have h2 : belowB (tOne r s) r x = false := by
      unfold belowB
      rw [h1]
      cases idx (tOne r s) r <;> rfl
    rw [h2]
    simpa using e
theorem one_ok1 {r o n : Int} (h : TOk (tOne r 5)) : ldR (tOne r 5) (okV (tOne r 5) 3 o n (src1 r)) r = (r == o) := by
  rw [one_may h]
  unfold okV
  rw [one_below h]
  simp [agB, src1]
theorem one_ok2 {r s : Int} (h : TOk (tOne r s)) (t : Nat) (ht : t < (tOne r s).length) (_ : lf (tOne r s) t = true) : okV (tOne r s) 9 r 12 (fun _ => none) (tb (tOne r s) t).root = false := by
  unfold okV
  simp [agB]
end Go.Proofs.Ytfkabmgbcdoijaa

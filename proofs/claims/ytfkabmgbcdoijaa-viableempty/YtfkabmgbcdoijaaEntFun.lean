/- Contracts of latest's ways: Of, counts, Take, Ban, Get. -/
import Derived.Test.YtfkabmgbcdoijaaEntRep

import Derived.Deep.QuietTactic

import Derived.BigQuiet

namespace Go.Proofs.Ytfkabmgbcdoijaa

open Go.ChangeShapes Go.WideShapes Go.ChangeAt Go.RowKit

set_option linter.unusedVariables false

def I64e (r : Int) : Prop := -9223372036854775808 ≤ r ∧ r ≤ 9223372036854775807
theorem isB_nat {n : Nat} {who : Int} (h : isB n who = true) : ∃ k : Nat, who = (k : Int) ∧ k < n := by
  have := of_decide_eq_true h
  exact ⟨who.toNat, by omega, by omega⟩
/-- an index that is -/
theorem ct_true {es : List Ent} {who : Int} (h : ctB es who = true) : ∃ k : Nat, who = (k : Int) ∧ k < es.length ∧ (entK es k).b = false := by
  unfold ctB at h
  obtain ⟨h1, h2⟩ := Bool.and_eq_true_iff.1 h
  obtain ⟨k, rfl, hk⟩ := isB_nat h1
  exact ⟨k, rfl, hk, by simpa using h2⟩
def sizeE (n : Int) : Nat := (if (if n < 0 then 0 else n) < 4096 then (if n < 0 then 0 else n) else 4096).toNat
end Go.Proofs.Ytfkabmgbcdoijaa

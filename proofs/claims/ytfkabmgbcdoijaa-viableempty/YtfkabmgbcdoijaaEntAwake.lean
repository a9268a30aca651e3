/- Layer 11's examples ('awake'). -/
import Derived.Test.YtfkabmgbcdoijaaEntFun

import Derived.Deep.CutRange

namespace Go.Proofs.Ytfkabmgbcdoijaa

open Go.ChangeShapes Go.WideShapes Go.ChangeAt Go.RowKit

set_option linter.unusedVariables false

theorem I64e_of {x : Int} (h : -9223372036854775808 ≤ x ∧ x ≤ 9223372036854775807) : I64e x := h
/-- a call that turns one new block -/
theorem turned {B : Nat} {w w1 w2 : World} {g : Nat} (h : Below B w w1) (k : Apart g w1 w2) (hB : B ≤ w1.heap.size) (hg : B ≤ g) : Below B w w2 := h.trans (k.old B hB hg)
abbrev eA0 : List Ent := [Ent.zero, Ent.zero]
abbrev eA1 : List Ent := [⟨true, 3, 7, false⟩, Ent.zero]
abbrev eA2 : List Ent := [⟨true, 3, 7, true⟩, Ent.zero]

end Go.Proofs.Ytfkabmgbcdoijaa

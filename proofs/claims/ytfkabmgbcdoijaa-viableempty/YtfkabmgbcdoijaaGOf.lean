/- Contract of weight.Of. -/
import Derived.Test.YtfkabmgbcdoijaaGBy

import Derived.Maps.RangeWalk

import Derived.Deep.CutRange

namespace Go.Proofs.Ytfkabmgbcdoijaa

open Go.ChangeShapes Go.WideShapes Go.ChangeAt Go.RowKit Go.Maps

set_option linter.unusedVariables false

/-- what weight.Of tells -/
def wV (bs : List TBlk) (es : List Ent) (bal : List Int) (s b bo r : Int) : Int := ofV (bif belowB bs bo r then bst (tot bal) s b else 0) (fun x => belowB bs x r) es bal
theorem bst_b (t s b : Int) (ht : 0 ≤ t ∧ t ≤ 18446744073709551615) : 0 ≤ bst t s b ∧ bst t s b ≤ 18446744073709551615 := by
  unfold bst
  omega
theorem sameU (x y : Int) : (Lit.int .u64 y).sameKey (.int .u64 x) = (y == x) := by
  simp only [Lit.sameKey]
  by_cases e : y = x
  · subst e; simp
  · simp [e]

end Go.Proofs.Ytfkabmgbcdoijaa

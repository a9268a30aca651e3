/- Contracts of config.Total, config.Sum: sums going round. -/
import Derived.Test.YtfkabmgbcdoijaaRows

import Derived.WalkKit

import Derived.ProofKit

import Derived.Test.YtfkabmgbcdoijaaOctMath

namespace Go.Proofs.Ytfkabmgbcdoijaa

open Go.ChangeShapes Go.WideShapes Go.ChangeAt Go.RowKit

set_option linter.unusedVariables false
theorem below_cfg (w : World) (o : Obj) : Below w.heap.size w (w.alloc o) := (Below.refl _ _).alloc (Nat.le_refl _) _

/-- the sum of all, going round -/
def tot (bs : List Int) : Int := bs.foldl (fun a b => (a + b) % 18446744073709551616) 0
theorem tot_take (bs : List Int) (k : Nat) (h : k < bs.length) : tot (bs.take (k + 1)) = (tot (bs.take k) + bs.getD k 0) % 18446744073709551616 := by
  rw [List.take_succ_eq_append_getElem h, tot, List.foldl_append, List.getD_eq_getElem?_getD, List.getElem?_eq_getElem h]
  rfl
/-- what one more validator adds -/
def one (bs : List Int) (v : Int) : Int := if 0 ≤ v ∧ v < bs.length then bs.getD v.toNat 0 else 0
/-- the sum of some, going round -/
def sums (bs who : List Int) : Int := who.foldl (fun (a v : Int) => if 0 ≤ v ∧ v < bs.length then (a + bs.getD v.toNat 0) % 18446744073709551616 else a) 0
theorem sums_take (bs who : List Int) (k : Nat) (h : k < who.length) : sums bs (who.take (k + 1)) =
    if 0 ≤ who.getD k 0 ∧ who.getD k 0 < bs.length then (sums bs (who.take k) + bs.getD (who.getD k 0).toNat 0) % 18446744073709551616 else sums bs (who.take k) := by
  rw [List.take_succ_eq_append_getElem h, sums, List.foldl_append, List.getD_eq_getElem?_getD, List.getElem?_eq_getElem h]
  rfl

end Go.Proofs.Ytfkabmgbcdoijaa

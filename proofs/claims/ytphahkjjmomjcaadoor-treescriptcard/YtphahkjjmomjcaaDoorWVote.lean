/- Contracts of psephoslaw04's vote: a vote's numbers. -/
import Derived.Test.YtphahkjjmomjcaaDoorRows

import Derived.WalkKit

import Derived.ProofKit

import Derived.Deep.Onto

import Derived.Test.YtphahkjjmomjcaaDoorEvents

import Derived.Test.YtphahkjjmomjcaaDoorObjs

import Derived.Test.YtphahkjjmomjcaaDoorRowLaws

namespace Go.Proofs.YtphahkjjmomjcaaDoor

open Go.ChangeShapes Go.WideShapes Go.ChangeAt Go.RowKit

set_option linter.unusedVariables false

/-- a number as a uint64 -/
def u64 (x : Int) : Int := x % 18446744073709551616
theorem u64_eq (x : Int) : IntKind.u64.wrap x = u64 x := IntKind.wrap_u64 x
/-- a vote's numbers -/
def voteNs (v : Vt) : List Int := [u64 v.slot, v.head, u64 v.sE, v.sR, u64 v.tE, v.tR, (v.who.length : Int)] ++ v.who.map u64
theorem voteNs_len (v : Vt) : (voteNs v).length = 7 + v.who.length := by simp [voteNs]; omega

theorem infoU64 : (Tryd.prog.info? 26).map (fun i => (i.zero, i.size, i.bytes)) = some (some (.int .u64 0), 1, 8) := by kernel_rfl

/-- an owned row, nil or not, of numbers -/
def OwnsU (w : World) (base : Nat) (v : Value) (ns : List Int) : Prop := w.ownsRow base 26 1 v ns.length (ns.map (Value.int .u64))


end Go.Proofs.YtphahkjjmomjcaaDoor

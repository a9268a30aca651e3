/- Contracts of psephoslaw04's vote: a vote's numbers. -/
import Derived.Test.YtbmajbbgfolmiaaDoorRows

import Derived.WalkKit

import Derived.ProofKit

import Derived.Deep.Onto

import Derived.Test.YtbmajbbgfolmiaaDoorEvents

import Derived.Test.YtbmajbbgfolmiaaDoorObjs

import Derived.Test.YtbmajbbgfolmiaaDoorRowLaws

namespace Go.Proofs.YtbmajbbgfolmiaaDoor

open Go.ChangeShapes Go.WideShapes Go.ChangeAt Go.RowKit

set_option linter.unusedVariables false

/-- a number as a uint64 -/
def u64 (x : Int) : Int := x % 18446744073709551616
theorem u64_eq (x : Int) : IntKind.u64.wrap x = u64 x := IntKind.wrap_u64 x
/-- a vote's numbers -/
def voteNs (v : Vt) : List Int := [u64 v.slot, v.head, u64 v.sE, v.sR, u64 v.tE, v.tR, (v.who.length : Int)] ++ v.who.map u64
theorem voteNs_len (v : Vt) : (voteNs v).length = 7 + v.who.length := by simp [voteNs]; omega

abbrev votC (v : Vt) (ao : Option Addr) (l c : Nat) : Obj := .cells #[.int .i64 v.slot, .int .u64 v.head, .int .i64 v.sE, .int .u64 v.sR, .int .i64 v.tE, .int .u64 v.tR, .slice ao l c] 30

theorem infoU64 : (Tryd.prog.info? 25).map (fun i => (i.zero, i.size, i.bytes)) = some (some (.int .u64 0), 1, 8) := by kernel_rfl

/-- an owned row, nil or not, of numbers -/
def OwnsU (w : World) (base : Nat) (v : Value) (ns : List Int) : Prop := w.ownsRow base 25 1 v ns.length (ns.map (Value.int .u64))


end Go.Proofs.YtbmajbbgfolmiaaDoor

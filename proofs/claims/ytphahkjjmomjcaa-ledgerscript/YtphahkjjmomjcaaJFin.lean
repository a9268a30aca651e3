/- Contracts of layer 8's shift and final. -/
import Derived.Test.YtphahkjjmomjcaaRows

import Derived.Test.YtphahkjjmomjcaaOctMath

import Derived.WalkKit

import Derived.ProofKit

import Derived.OpenShut

import Derived.Below

import Derived.Deep.CutRange

namespace Go.Proofs.Ytphahkjjmomjcaa

open Go.ChangeShapes Go.WideShapes Go.ChangeAt Go.RowKit

set_option linter.unusedVariables false

/-- four bits, a checkpoint, a state: as they are handed over -/
abbrev bcells (b0 b1 b2 b3 : Bool) : Array Value := #[.bool b0, .bool b1, .bool b2, .bool b3]
abbrev pcells (e r : Int) : Array Value := #[.int .i64 e, .int .u64 r]
abbrev scells (b0 b1 b2 b3 : Bool) (pe pr ce cr fe fr : Int) : Array Value := #[.bool b0, .bool b1, .bool b2, .bool b3, .int .i64 pe, .int .u64 pr, .int .i64 ce, .int .u64 cr, .int .i64 fe, .int .u64 fr]

set_option maxRecDepth 100000 in
set_option maxHeartbeats 400000 in
theorem shift_any (b0 b1 b2 b3 : Bool) (w : World) :
    Calls Try.prog 70 #[.agg (bcells b0 b1 b2 b3)] w fun e w' => e = .returned (.agg (bcells false b0 b1 b2)) ∧ Below w.heap.size w w' := by
  go_enter Try.func70, Try.ntmps70
  go_wp2
  refine bodyPost_ret (v := .agg (bcells false b0 b1 b2)) (by simp [results, Try.results70, go_sem]) rfl ⟨rfl, ?_⟩
  exact ((Below.refl _ w).alloc (Nat.le_refl _) _).alloc (by simp) _

/-- is the first, the second .. of the ways to a new final checkpoint so -/
def way1 (b0 b1 : Bool) (ce e : Int) : Bool := b0 && b1 && (ce == wrap64 (e - 1))
def way2 (b0 b1 b2 : Bool) (ce e : Int) : Bool := b0 && b1 && b2 && (ce == wrap64 (e - 2))
def way3 (b1 b2 : Bool) (pe e : Int) : Bool := b1 && b2 && (pe == wrap64 (e - 2))
def way4 (b1 b2 b3 : Bool) (pe e : Int) : Bool := b1 && b2 && b3 && (pe == wrap64 (e - 3))
/-- the final checkpoint: which of three -/
def finI (b0 b1 b2 b3 : Bool) (pe ce e : Int) (p c f : Int) : Int :=
  bif way1 b0 b1 ce e then c else bif way2 b0 b1 b2 ce e then c else bif way3 b1 b2 pe e then p else bif way4 b1 b2 b3 pe e then p else f

set_option maxRecDepth 100000 in
set_option maxHeartbeats 1000000 in
theorem final_any (s0 s1 s2 s3 : Bool) (pe pr ce cr fe fr : Int) (b0 b1 b2 b3 : Bool) (e : Int) (w : World) :
    Calls Try.prog 71 #[.agg (scells s0 s1 s2 s3 pe pr ce cr fe fr), .agg (bcells b0 b1 b2 b3), .int .i64 e] w fun x w' =>
      x = .returned (.agg (pcells (finI b0 b1 b2 b3 pe ce e pe ce fe) (finI b0 b1 b2 b3 pe ce e pr cr fr))) ∧ Below w.heap.size w w' := by
  go_enter Try.func71, Try.ntmps71
  go_wp2
  all_goals
    refine bodyPost_ret (v := .agg (pcells (finI b0 b1 b2 b3 pe ce e pe ce fe) (finI b0 b1 b2 b3 pe ce e pr cr fr))) (by simp [results, Try.results71, go_sem, finI, way1, way2, way3, way4, *]) rfl ⟨rfl, ?_⟩
    exact (((Below.refl _ w).alloc (Nat.le_refl _) _).alloc (by simp) _).alloc (by simp; omega) _
end Go.Proofs.Ytphahkjjmomjcaa

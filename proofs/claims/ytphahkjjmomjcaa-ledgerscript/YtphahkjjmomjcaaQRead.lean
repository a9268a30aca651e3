/- Contracts of layer 7's functions (quorum.Enough, quorum.Third, quorum.Meet), of psephoslaw07's times and atLeast, and layer 7's awake. -/
import Derived.Test.YtphahkjjmomjcaaRows

import Derived.Test.YtphahkjjmomjcaaOctMath

import Derived.WalkKit

import Derived.ProofKit

import Derived.OpenShut

import Derived.Below

import Derived.Deep.QuietTactic

import Derived.BigQuiet

import Derived.Outline

import Derived.WalkSpells

import Derived.WalkLawsBesides

namespace Go.Proofs.Ytphahkjjmomjcaa

open Go.ChangeShapes Go.WideShapes Go.ChangeAt Go.RowKit

set_option linter.unusedVariables false

/-- are some two thirds of all at least; a third; how much must two parts share -/
def enB (s a : Int) : Bool := decide (0 < a ∧ 2 * a ≤ 3 * s)
def thB (s a : Int) : Bool := decide (0 < a ∧ a ≤ 3 * s)
def mtI (a b c : Int) : Int := if a ≤ c ∧ b ≤ c ∧ c < a + b then a + b - c else 0
theorem mtI_b {a b c : Int} (ha : 0 ≤ a ∧ a ≤ 18446744073709551615) (hb : 0 ≤ b ∧ b ≤ 18446744073709551615) (hc : 0 ≤ c ∧ c ≤ 18446744073709551615) : 0 ≤ mtI a b c ∧ mtI a b c ≤ 18446744073709551615 := by
  unfold mtI; split <;> omega
theorem wf_u32q {a : Int} (h : (Lit.int .u32 a).wf = true) : 0 ≤ a ∧ a ≤ 4294967295 := by
  simpa [Lit.wf, IntKind.min, IntKind.max, IntKind.signed, IntKind.bits] using h

set_option maxRecDepth 100000 in
set_option maxHeartbeats 400000 in
theorem enough_any (s a : Int) (w : World) (hs : 0 ≤ s ∧ s ≤ 18446744073709551615) (ha : 0 ≤ a ∧ a ≤ 18446744073709551615) :
    Calls Try.prog 54 #[.int .u64 s, .int .u64 a] w fun e w' => e = .returned (.bool (enB s a)) ∧ w' = w := by
  rcases (by omega : a = 0 ∨ 0 < a) with h | h
  all_goals
    go_enter Try.func54, Try.ntmps54
    go_wp2
    go_ret
    refine ⟨ret_bool ?_, rfl⟩
    first
      | exact (decide_eq_false (by omega)).symm
      | exact decide_eq_decide.mpr (by omega)
end Go.Proofs.Ytphahkjjmomjcaa

/- Contracts of layer 7's functions (quorum.Enough, quorum.Third, quorum.Meet), of psephoslaw07's times and atLeast, and layer 7's awake. -/
import Derived.Test.YtikehicojmcmiaaRows

import Derived.Test.YtikehicojmcmiaaOctMath

import Derived.WalkKit

import Derived.ProofKit

import Derived.OpenShut

import Derived.Below

import Derived.Deep.QuietTactic

import Derived.BigQuiet

import Derived.Outline

import Derived.WalkSpells

import Derived.WalkLawsBesides

namespace Go.Proofs.Ytikehicojmcmiaa

open Go.ChangeShapes Go.WideShapes Go.ChangeAt Go.RowKit

set_option linter.unusedVariables false

/-- are some two thirds of all at least; a third; how much must two parts share -/
def enB (s a : Int) : Bool := decide (0 < a ∧ 2 * a ≤ 3 * s)
def thB (s a : Int) : Bool := decide (0 < a ∧ a ≤ 3 * s)
def mtI (a b c : Int) : Int := if a ≤ c ∧ b ≤ c ∧ c < a + b then a + b - c else 0
theorem mtI_b {a b c : Int} (ha : 0 ≤ a ∧ a ≤ 18446744073709551615) (hb : 0 ≤ b ∧ b ≤ 18446744073709551615) (hc : 0 ≤ c ∧ c ≤ 18446744073709551615) : 0 ≤ mtI a b c ∧ mtI a b c ≤ 18446744073709551615 := by
  unfold mtI; split <;> omega
theorem wf_u32q {a : Int} (h : (Lit.int .u32 a).wf = true) : 0 ≤ a ∧ a ≤ 4294967295 := by
  simpa [Lit.wf, IntKind.min, IntKind.max, IntKind.signed, IntKind.bits] using h

set_option maxHeartbeats 400000 in
theorem enough_any (s a : Int) (w : World) (hs : 0 ≤ s ∧ s ≤ 18446744073709551615) (ha : 0 ≤ a ∧ a ≤ 18446744073709551615) :
    Calls Try.prog 11 #[.int .u64 s, .int .u64 a] w fun e w' => e = .returned (.bool (enB s a)) ∧ w' = w := by
  rcases (by omega : a = 0 ∨ 0 < a) with h | h
  all_goals
    go_enter Try.func11, Try.ntmps11
    go_wp2
    go_ret
    refine ⟨ret_bool ?_, rfl⟩
    first
      | exact (decide_eq_false (by omega)).symm
      | exact decide_eq_decide.mpr (by omega)
set_option maxHeartbeats 400000 in
theorem third_any (s a : Int) (w : World) (hs : 0 ≤ s ∧ s ≤ 18446744073709551615) (ha : 0 ≤ a ∧ a ≤ 18446744073709551615) :
    Calls Try.prog 13 #[.int .u64 s, .int .u64 a] w fun e w' => e = .returned (.bool (thB s a)) ∧ w' = w := by
  rcases (by omega : a = 0 ∨ 0 < a) with h | h
  all_goals
    go_enter Try.func13, Try.ntmps13
    go_wp2
    go_ret
    refine ⟨ret_bool ?_, rfl⟩
    first
      | exact (decide_eq_false (by omega)).symm
      | exact decide_eq_decide.mpr (by omega)
set_option maxHeartbeats 1000000 in
theorem meet_any (a b c : Int) (w : World) (ha : 0 ≤ a ∧ a ≤ 18446744073709551615) (hb : 0 ≤ b ∧ b ≤ 18446744073709551615) (hc : 0 ≤ c ∧ c ≤ 18446744073709551615) :
    Calls Try.prog 14 #[.int .u64 a, .int .u64 b, .int .u64 c] w fun e w' => e = .returned (.int .u64 (mtI a b c)) ∧ w' = w := by
  rcases (by omega : c < a ∨ (a ≤ c ∧ c < b) ∨ (a ≤ c ∧ b ≤ c ∧ a ≤ c - b) ∨ (a ≤ c ∧ b ≤ c ∧ c - b < a)) with h | h | h | h
  all_goals
    go_enter Try.func14, Try.ntmps14
    go_wp2
    go_ret
    refine ⟨ret_int ?_, rfl⟩
    unfold mtI; split <;> omega
/-- layer 7's examples -/
theorem awake_any (w : World) : Calls Try.prog 10 #[] w fun e w' => e = .returned (.bool true) ∧ w' = w := by
  go_enter Try.func10, Try.ntmps10
  go_wp2_with (first
    | (go_at_call 11; refine (enough_any _ _ _ (by omega) (by omega)).mono ?_; rintro e w' ⟨rfl, hw⟩; obtain rfl : _ = w' := hw.symm; first | rw [show enB 2 3 = true from rfl] | rw [show enB 1 2 = false from rfl])
    | (go_at_call 13; refine (third_any _ _ _ (by omega) (by omega)).mono ?_; rintro e w' ⟨rfl, hw⟩; obtain rfl : _ = w' := hw.symm; rw [show thB 1 3 = true from rfl])
    | (go_at_call 14; refine (meet_any _ _ _ _ (by omega) (by omega) (by omega)).mono ?_; rintro e w' ⟨rfl, hw⟩; obtain rfl : _ = w' := hw.symm; rw [show mtI 2 2 3 = 1 from rfl]))
  go_ret
  exact ⟨rfl, rfl⟩
end Go.Proofs.Ytikehicojmcmiaa

/- Contracts of layer 2's functions that only reckon (epoch.Of, epoch.Start, epoch.First). -/
import Derived.Test.YtphahkjjmomjcaaRows

import Derived.Test.YtphahkjjmomjcaaOctMath

import Derived.WalkKit

import Derived.ProofKit

import Derived.OpenShut

import Derived.Below

import Derived.Deep.QuietTactic

import Derived.BigQuiet

import Derived.Outline

import Derived.WalkSpells

import Derived.WalkLawsBesides

namespace Go.Proofs.Ytphahkjjmomjcaa

open Go.ChangeShapes Go.WideShapes Go.ChangeAt Go.RowKit


/-- what counts of a slot or an epoch, and of a number of slots -/
def lo0 (a : Int) : Int := if a < 0 then 0 else a
def lo1 (a : Int) : Int := if a < 1 then 1 else a

theorem lo0_b {a : Int} (h : -9223372036854775808 ≤ a ∧ a ≤ 9223372036854775807) : 0 ≤ lo0 a ∧ lo0 a ≤ 9223372036854775807 := by unfold lo0; split <;> omega
theorem lo1_b {a : Int} (h : -9223372036854775808 ≤ a ∧ a ≤ 9223372036854775807) : 1 ≤ lo1 a ∧ lo1 a ≤ 9223372036854775807 := by unfold lo1; split <;> omega
/-- a slot's epoch -/
def epo (a s : Int) : Int := lo0 a / lo1 s
theorem epo_b {a s : Int} (h : -9223372036854775808 ≤ a ∧ a ≤ 9223372036854775807) (hs : -9223372036854775808 ≤ s ∧ s ≤ 9223372036854775807) : 0 ≤ epo a s ∧ epo a s ≤ 9223372036854775807 := by
  have h0 := lo0_b h
  have h1 := lo1_b hs
  unfold epo
  exact ⟨Int.ediv_nonneg h0.1 (by omega), Int.le_trans (Int.ediv_le_self _ h0.1) h0.2⟩
/-- is a slot its epoch's first one? -/
def firB (a s : Int) : Bool := decide (0 ≤ a ∧ a % lo1 s = 0)

set_option maxRecDepth 100000 in
set_option maxHeartbeats 400000 in
theorem zero_any (a : Int) (w : World) : Calls Try.prog 59 #[.int .i64 a] w fun e w' => e = .returned (.int .i64 (lo0 a)) ∧ w' = w := by
  go_enter Try.func59, Try.ntmps59
  go_wp2
  all_goals
    go_ret
    exact ⟨ret_int (by unfold lo0; split <;> omega), rfl⟩
set_option maxRecDepth 100000 in
set_option maxHeartbeats 400000 in
theorem one_any (a : Int) (w : World) : Calls Try.prog 60 #[.int .i64 a] w fun e w' => e = .returned (.int .i64 (lo1 a)) ∧ w' = w := by
  go_enter Try.func60, Try.ntmps60
  go_wp2
  all_goals
    go_ret
    exact ⟨ret_int (by unfold lo1; split <;> omega), rfl⟩
set_option maxRecDepth 100000 in
set_option maxHeartbeats 400000 in
theorem of_any (a s : Int) (w : World) (ha : -9223372036854775808 ≤ a ∧ a ≤ 9223372036854775807) (hs : -9223372036854775808 ≤ s ∧ s ≤ 9223372036854775807) :
    Calls Try.prog 57 #[.int .i64 a, .int .i64 s] w fun e w' => e = .returned (.int .i64 (epo a s)) ∧ w' = w := by
  have h0 := lo0_b ha
  have h1 := lo1_b hs
  go_enter Try.func57, Try.ntmps57
  go_wp2_with (first
    | (go_at_call 59; refine (zero_any _ _).mono ?_; rintro e w' ⟨rfl, rfl⟩)
    | (go_at_call 60; refine (one_any _ _).mono ?_; rintro e w' ⟨rfl, rfl⟩))
  go_ret
  exact ⟨rfl, rfl⟩
set_option maxRecDepth 100000 in
set_option maxHeartbeats 400000 in
theorem start_any (a s : Int) (w : World) (ha : -9223372036854775808 ≤ a ∧ a ≤ 9223372036854775807) (hs : -9223372036854775808 ≤ s ∧ s ≤ 9223372036854775807) :
    Calls Try.prog 31 #[.int .i64 a, .int .i64 s] w fun e w' => e = .returned (.int .i64 (wrap64 (lo0 a * lo1 s))) ∧ w' = w := by
  have h0 := lo0_b ha
  have h1 := lo1_b hs
  go_enter Try.func31, Try.ntmps31
  go_wp2_with (first
    | (go_at_call 59; refine (zero_any _ _).mono ?_; rintro e w' ⟨rfl, rfl⟩)
    | (go_at_call 60; refine (one_any _ _).mono ?_; rintro e w' ⟨rfl, rfl⟩))
  go_ret
  exact ⟨rfl, rfl⟩
end Go.Proofs.Ytphahkjjmomjcaa

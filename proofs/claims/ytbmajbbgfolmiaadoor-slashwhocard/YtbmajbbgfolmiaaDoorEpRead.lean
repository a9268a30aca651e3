/- Contracts of layer 2's functions that only reckon (epoch.Of, epoch.Start, epoch.First). -/
import Derived.Test.YtbmajbbgfolmiaaDoorRows

import Derived.Test.YtbmajbbgfolmiaaDoorOctMath

import Derived.WalkKit

import Derived.ProofKit

import Derived.OpenShut

import Derived.Below

import Derived.Deep.QuietTactic

import Derived.BigQuiet

import Derived.Outline

import Derived.WalkSpells

import Derived.WalkLawsBesides

namespace Go.Proofs.YtbmajbbgfolmiaaDoor

open Go.ChangeShapes Go.WideShapes Go.ChangeAt Go.RowKit


/-- what counts of a slot or an epoch, and of a number of slots -/
def lo0 (a : Int) : Int := if a < 0 then 0 else a
def lo1 (a : Int) : Int := if a < 1 then 1 else a

theorem lo0_b {a : Int} (h : -9223372036854775808 ≤ a ∧ a ≤ 9223372036854775807) : 0 ≤ lo0 a ∧ lo0 a ≤ 9223372036854775807 := by unfold lo0; split <;> omega
theorem lo1_b {a : Int} (h : -9223372036854775808 ≤ a ∧ a ≤ 9223372036854775807) : 1 ≤ lo1 a ∧ lo1 a ≤ 9223372036854775807 := by unfold lo1; split <;> omega
/-- a slot's epoch -/
def epo (a s : Int) : Int := lo0 a / lo1 s
theorem epo_b {a s : Int} (h : -9223372036854775808 ≤ a ∧ a ≤ 9223372036854775807) (hs : -9223372036854775808 ≤ s ∧ s ≤ 9223372036854775807) : 0 ≤ epo a s ∧ epo a s ≤ 9223372036854775807 := by
  have h0 := lo0_b h
  have h1 := lo1_b hs
  unfold epo
  exact ⟨Int.ediv_nonneg h0.1 (by omega), Int.le_trans (Int.ediv_le_self _ h0.1) h0.2⟩
/-- is a slot its epoch's first one? -/
def firB (a s : Int) : Bool := decide (0 ≤ a ∧ a % lo1 s = 0)

set_option maxRecDepth 100000 in
set_option maxHeartbeats 400000 in
theorem zero_any (a : Int) (w : World) : Calls Tryd.prog 26 #[.int .i64 a] w fun e w' => e = .returned (.int .i64 (lo0 a)) ∧ w' = w := by
  go_enter Tryd.func26, Tryd.ntmps26
  go_wp2
  all_goals
    go_ret
    exact ⟨ret_int (by unfold lo0; split <;> omega), rfl⟩
set_option maxRecDepth 100000 in
set_option maxHeartbeats 400000 in
theorem one_any (a : Int) (w : World) : Calls Tryd.prog 27 #[.int .i64 a] w fun e w' => e = .returned (.int .i64 (lo1 a)) ∧ w' = w := by
  go_enter Tryd.func27, Tryd.ntmps27
  go_wp2
  all_goals
    go_ret
    exact ⟨ret_int (by unfold lo1; split <;> omega), rfl⟩
set_option maxRecDepth 100000 in
set_option maxHeartbeats 400000 in
theorem of_any (a s : Int) (w : World) (ha : -9223372036854775808 ≤ a ∧ a ≤ 9223372036854775807) (hs : -9223372036854775808 ≤ s ∧ s ≤ 9223372036854775807) :
    Calls Tryd.prog 18 #[.int .i64 a, .int .i64 s] w fun e w' => e = .returned (.int .i64 (epo a s)) ∧ w' = w := by
  have h0 := lo0_b ha
  have h1 := lo1_b hs
  go_enter Tryd.func18, Tryd.ntmps18
  go_wp2_with (first
    | (go_at_call 26; refine (zero_any _ _).mono ?_; rintro e w' ⟨rfl, rfl⟩)
    | (go_at_call 27; refine (one_any _ _).mono ?_; rintro e w' ⟨rfl, rfl⟩))
  go_ret
  exact ⟨rfl, rfl⟩
end Go.Proofs.YtbmajbbgfolmiaaDoor

/- Contracts of octet.Get and octet.Small. -/
import Derived.Test.YtdigpjfgjlhhjaaRows

import Derived.Test.YtdigpjfgjlhhjaaOctMath

import Derived.WalkKit

import Derived.ProofKit

import Derived.OpenShut

import Derived.Below

import Derived.Deep.QuietTactic

import Derived.BigQuiet

import Derived.Outline

import Derived.WalkSpells

import Derived.WalkLawsBesides

namespace Go.Proofs.Ytdigpjfgjlhhjaa

open Go.ChangeShapes Go.WideShapes Go.ChangeAt Go.RowKit


set_option maxHeartbeats 400000 in
theorem get_no (a0 : Option Addr) (n cap : Nat) (at_ : Int) (w : World) (hm : n ≤ maxLen) (h : at_ < 0 ∨ (n : Int) - 8 < at_) (hb : -9223372036854775808 ≤ at_ ∧ at_ ≤ 9223372036854775807) :
    Calls Try.prog 35 #[.slice a0 n cap, .int .i64 at_] w fun e w' => e = .returned (.tuple #[.int .u64 0, .int .i64 at_, .bool false]) ∧ w' = w := by
  unfold maxLen at hm
  by_cases h0 : at_ < 0
  · go_enter Try.func35, Try.ntmps35
    go_wp2
    go_ret3
    exact ⟨rfl, rfl⟩
  · have h1 : (n : Int) - 8 < at_ := by omega
    go_enter Try.func35, Try.ntmps35
    go_wp2
    go_ret3
    exact ⟨rfl, rfl⟩

set_option maxHeartbeats 400000 in
theorem get_yes (zs : List Int) (b off n cap : Nat) (p : Nat) (w : World) (hz : zs.length = 8) (hz8 : Bytes8 zs) (hn : n ≤ cap) (hm : cap ≤ maxLen) (h : p + 8 ≤ n)
    (hc : ∀ i, i < 8 → w.cell? ⟨b, off + p + i, none⟩ = some (.int .u8 (zs.getD i 0))) :
    Calls Try.prog 35 #[.slice (some ⟨b, off, none⟩) n cap, .int .i64 (p : Int)] w fun e w' => e = .returned (.tuple #[.int .u64 (num zs), .int .i64 ((p : Int) + 8), .bool true]) ∧ w' = w := by
  unfold maxLen at hm
  have h0 : ¬ ((p : Int) < 0) := by omega
  have h1 : ¬ ((n : Int) - 8 < (p : Int)) := by omega
  go_enter Try.func35, Try.ntmps35
  go_wp2
  go_loop [7, 26] (fun t i => ∃ k : Nat, k ≤ 8 ∧ i = .int .i64 k ∧ t = .int .u64 (num (zs.take k))) (fun _ i => 8 - (intOf i).toNat)
  case atStart => exact ⟨0, Nat.zero_le _, rfl, rfl⟩
  case round =>
    obtain ⟨k, hk, rfl, rfl⟩ := hrel
    by_cases hlt : k < 8
    · have hcell := hc k hlt
      have hst : Hid _ := or_step zs hz8 k (by omega) (by omega)
      clear hc
      go_wp2
      go_round
      case rel => exact ⟨k + 1, by omega, by go_num, by rw [hst.out]⟩
      case measure => simp [intOf]; omega
    · have ht : Hid (zs.take k = zs) := List.take_of_length_le (by omega)
      go_wp2
      go_ret3
      exact ⟨by rw [ht.out]; rfl, rfl⟩

set_option maxHeartbeats 400000 in
theorem small_noget (v : Value) (at_ most : Int) (w : World)
    (hg : Calls Try.prog 35 #[v, .int .i64 at_] w fun e w' => e = .returned (.tuple #[.int .u64 0, .int .i64 at_, .bool false]) ∧ w' = w) :
    Calls Try.prog 32 #[v, .int .i64 at_, .int .i64 most] w fun e w' => e = .returned (.tuple #[.int .i64 0, .int .i64 at_, .bool false]) ∧ w' = w := by
  have HG := hide (hg)
  clear hg
  go_enter Try.func32, Try.ntmps32
  go_wp2_with (go_at_call 35; refine Calls.mono HG.out ?_; rintro e w' ⟨rfl, rfl⟩)
  go_ret3
  exact ⟨rfl, rfl⟩

/-- a number is there: whether it is small enough -/
def smallB (n most : Int) : Bool := decide (0 ≤ most ∧ n ≤ most)
set_option maxHeartbeats 400000 in
theorem small_get (v : Value) (at_ most n e1 : Int) (w : World) (h0 : 0 ≤ n) (hn : n ≤ 18446744073709551615) (hm : most ≤ 9223372036854775807)
    (hg : Calls Try.prog 35 #[v, .int .i64 at_] w fun e w' => e = .returned (.tuple #[.int .u64 n, .int .i64 e1, .bool true]) ∧ w' = w) :
    Calls Try.prog 32 #[v, .int .i64 at_, .int .i64 most] w fun e w' =>
      e = .returned (if smallB n most then .tuple #[.int .i64 n, .int .i64 e1, .bool true] else .tuple #[.int .i64 0, .int .i64 at_, .bool false]) ∧ w' = w := by
  have HG := hide (hg)
  clear hg
  by_cases hneg : most < 0
  · have hs : smallB n most = false := by simp [smallB]; omega
    rw [hs, if_neg (by simp)]
    go_enter Try.func32, Try.ntmps32
    go_wp2_with (go_at_call 35; refine Calls.mono HG.out ?_; rintro e w' ⟨rfl, rfl⟩)
    go_ret3
    exact ⟨rfl, rfl⟩
  · by_cases hle : n ≤ most
    · have hs : smallB n most = true := by simp [smallB]; omega
      rw [hs, if_pos rfl]
      go_enter Try.func32, Try.ntmps32
      go_wp2_with (go_at_call 35; refine Calls.mono HG.out ?_; rintro e w' ⟨rfl, rfl⟩)
      go_ret3
      exact ⟨rfl, rfl⟩
    · have hs : smallB n most = false := by simp [smallB]; omega
      rw [hs, if_neg (by simp)]
      go_enter Try.func32, Try.ntmps32
      go_wp2_with (go_at_call 35; refine Calls.mono HG.out ?_; rintro e w' ⟨rfl, rfl⟩)
      go_ret3
      exact ⟨rfl, rfl⟩
end Go.Proofs.Ytdigpjfgjlhhjaa

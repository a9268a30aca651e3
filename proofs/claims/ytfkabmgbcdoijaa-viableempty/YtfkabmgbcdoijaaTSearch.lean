/- Contracts of cmp.Less, slices.isNaN and slices.BinarySearch of numbers of 64 bits without a sign. -/
import Derived.Test.YtfkabmgbcdoijaaOctMath

import Derived.Test.YtfkabmgbcdoijaaProg

import Derived.WalkKit

import Derived.ProofKit

import Derived.Deep.QuietTactic

import Derived.BigQuiet

import Derived.Deep.CutRange

namespace Go.Proofs.Ytfkabmgbcdoijaa

open Go.ChangeShapes Go.WideShapes Go.ChangeAt Go.RowKit

set_option linter.unusedVariables false

theorem cnan_any (x : Int) (w : World) : Calls Try.prog 35 #[.int .u64 x] w fun e w' => e = .returned (.bool false) ∧ w' = w := by
  have h : (x != x) = false := by simp
  go_enter Try.func35, Try.ntmps35
  go_wp2
  go_ret
  exact ⟨by simp, rfl⟩
theorem snan_any (x : Int) (w : World) : Calls Try.prog 32 #[.int .u64 x] w fun e w' => e = .returned (.bool false) ∧ w' = w := by
  have h : (x != x) = false := by simp
  go_enter Try.func32, Try.ntmps32
  go_wp2
  go_ret
  exact ⟨by simp, rfl⟩
theorem less_any (x y : Int) (w : World) : Calls Try.prog 31 #[.int .u64 x, .int .u64 y] w fun e w' => e = .returned (.bool (decide (x < y))) ∧ w' = w := by
  obtain ⟨B, hB⟩ : ∃ B, decide (x < y) = B := ⟨_, rfl⟩
  rw [hB]
  go_enter Try.func31, Try.ntmps31
  go_wp2_with (go_at_call 35; refine (cnan_any _ _).mono ?_; rintro e w' ⟨rfl, rfl⟩)
  go_ret
  exact ⟨rfl, rfl⟩

/-- where a number would stand -/
def Spot (zs : List Int) (x : Int) (i j : Nat) : Prop := zs.Pairwise (· < ·) → (∀ t, t < i → zs.getD t 0 < x) ∧ (∀ t, j ≤ t → t < zs.length → x ≤ zs.getD t 0)
theorem Spot.zero (zs : List Int) (x : Int) : Spot zs x 0 zs.length := fun _ => ⟨fun t h => by omega, fun t h1 h2 => by omega⟩
theorem pw_getD {zs : List Int} (h : zs.Pairwise (· < ·)) {s t : Nat} (h1 : s < t) (h2 : t < zs.length) : zs.getD s 0 < zs.getD t 0 := by
  have := List.pairwise_iff_getElem.1 h s t (by omega) h2 h1
  rw [List.getD_eq_getElem?_getD, List.getD_eq_getElem?_getD, List.getElem?_eq_getElem h2, List.getElem?_eq_getElem (show s < zs.length by omega)]
  exact this
theorem Spot.up {zs : List Int} {x : Int} {i j m : Nat} (h : Spot zs x i j) (hm : m < zs.length) (hx : zs.getD m 0 < x) : Spot zs x (m + 1) j := fun hp => ⟨fun t ht => by
  by_cases e : t = m
  · rw [e]; exact hx
  · have := pw_getD hp (show t < m by omega) hm
    omega, (h hp).2⟩
theorem Spot.down {zs : List Int} {x : Int} {i j m : Nat} (h : Spot zs x i j) (hm : m < zs.length) (hx : ¬ zs.getD m 0 < x) : Spot zs x i m := fun hp => ⟨(h hp).1, fun t h1 h2 => by
  by_cases e : t = m
  · rw [e]; omega
  · have := pw_getD hp (show m < t by omega) h2
    omega⟩

/-- what BinarySearch leaves -/
def Found (zs : List Int) (x : Int) (n : Nat) (w : World) (e : Ending) (w' : World) : Prop := ∃ (k : Nat) (b : Bool), e = .returned (.tuple #[.int .i64 k, .bool b]) ∧ k ≤ n ∧ Spot zs x k k ∧ w' = w
set_option maxRecDepth 100000 in
set_option maxHeartbeats 1000000 in
theorem bsearch_any (zs : List Int) (a : Option Addr) (n c : Nat) (x : Int) (w : World) (hR : RowIn .u64 w a n c zs) (hn : n ≤ 4611686018427387903) :
    Calls Try.prog 29 #[.slice a n c, .int .u64 x] w (Found zs x n w) := by
  have hl := hR.len
  have HR := hide hR
  clear hR
  go_enter Try.func29, Try.ntmps29
  go_wp2_with fail
  go_loop [7, 8] (fun p q => ∃ i j : Nat, Hid (i ≤ j ∧ j ≤ n) ∧ p = .int .i64 i ∧ q = .int .i64 j ∧ Hid (Spot zs x i j)) (fun p q => (intOf q).toNat - (intOf p).toNat)
  case atStart => exact ⟨0, n, hide ⟨Nat.zero_le _, Nat.le_refl _⟩, rfl, rfl, hide (by rw [← hl]; exact Spot.zero zs x)⟩
  case round =>
    obtain ⟨i, j, hij, rfl, rfl, hS⟩ := hrel
    obtain ⟨h1, h2⟩ := hij.out
    by_cases hlt : i < j
    · obtain ⟨b, off, rfl, hbs, hc⟩ := HR.out.cell ((i + j) / 2) (by omega)
      obtain ⟨m, hm⟩ : ∃ m, Hid ((i + j) / 2 = m) := ⟨_, rfl⟩
      rw [hm.out] at hc
      obtain ⟨z, hz⟩ : ∃ z, Hid (zs.getD m 0 = z) := ⟨_, rfl⟩
      rw [hz.out] at hc
      have hmm : ((i : Int) + (j : Int)) / 2 = (m : Int) := by have := hm.out; omega
      have hmi : ((m : Nat) : Int) < (n : Int) := by have := hm.out; omega
      have hmj : Hid (i ≤ m ∧ m < j) := hide (by have := hm.out; omega)
      have hmn : m < n := by have := hm.out; omega
      go_wp2_with (go_at_call 31; refine (less_any _ _ _).mono ?_; rintro e w' ⟨rfl, hw⟩; obtain rfl : _ = w' := hw.symm)
      · have hx : z < x := by assumption
        go_round
        case rel => exact ⟨m + 1, j, hide (by have := hmj.out; omega), by go_num, rfl, hide (hS.out.up (by omega) (by rw [hz.out]; exact hx))⟩
        case measure => have := hmj.out; simp [intOf]; omega
      · have hx : ¬ z < x := by omega
        go_round
        case rel => exact ⟨i, m, hide (by have := hmj.out; omega), rfl, rfl, hide (hS.out.down (by omega) (by rw [hz.out]; exact hx))⟩
        case measure => have := hmj.out; simp [intOf]; omega
    · have hij2 : j = i := by omega
      subst hij2
      by_cases hin : j < n
      · obtain ⟨b, off, rfl, hbs, hc⟩ := HR.out.cell j hin
        obtain ⟨z, hz⟩ : ∃ z, Hid (zs.getD j 0 = z) := ⟨_, rfl⟩
        rw [hz.out] at hc
        have hji : ((j : Nat) : Int) < (n : Int) := by omega
        go_wp2_with (go_at_call 32; refine (snan_any _ _).mono ?_; rintro e w' ⟨rfl, hw⟩; obtain rfl : _ = w' := hw.symm)
        all_goals
          go_ret2
          exact ⟨_, _, rfl, h2, hS.out, rfl⟩
      · have hji : ¬ ((j : Nat) : Int) < (n : Int) := by omega
        go_wp2
        go_ret2
        exact ⟨_, _, rfl, h2, hS.out, rfl⟩
end Go.Proofs.Ytfkabmgbcdoijaa

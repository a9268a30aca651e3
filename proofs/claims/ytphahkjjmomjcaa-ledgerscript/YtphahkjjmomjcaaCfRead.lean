/- Contracts of config.Total, config.Sum: sums going round. -/
import Derived.Test.YtphahkjjmomjcaaRows

import Derived.WalkKit

import Derived.ProofKit

import Derived.Test.YtphahkjjmomjcaaOctMath

namespace Go.Proofs.Ytphahkjjmomjcaa

open Go.ChangeShapes Go.WideShapes Go.ChangeAt Go.RowKit

set_option linter.unusedVariables false

/-- a configuration, as it is laid -/
abbrev cfg (a : Option Addr) (l c : Nat) (s b : Int) : Obj := .cells #[.slice a l c, .int .i64 s, .int .i64 b] 24
theorem below_cfg (w : World) (o : Obj) : Below w.heap.size w (w.alloc o) := (Below.refl _ _).alloc (Nat.le_refl _) _

/-- the sum of all, going round -/
def tot (bs : List Int) : Int := bs.foldl (fun a b => (a + b) % 18446744073709551616) 0
theorem tot_take (bs : List Int) (k : Nat) (h : k < bs.length) : tot (bs.take (k + 1)) = (tot (bs.take k) + bs.getD k 0) % 18446744073709551616 := by
  rw [List.take_succ_eq_append_getElem h, tot, List.foldl_append, List.getD_eq_getElem?_getD, List.getElem?_eq_getElem h]
  rfl
/-- what one more validator adds -/
def one (bs : List Int) (v : Int) : Int := if 0 ≤ v ∧ v < bs.length then bs.getD v.toNat 0 else 0
/-- the sum of some, going round -/
def sums (bs who : List Int) : Int := who.foldl (fun (a v : Int) => if 0 ≤ v ∧ v < bs.length then (a + bs.getD v.toNat 0) % 18446744073709551616 else a) 0
theorem sums_take (bs who : List Int) (k : Nat) (h : k < who.length) : sums bs (who.take (k + 1)) =
    if 0 ≤ who.getD k 0 ∧ who.getD k 0 < bs.length then (sums bs (who.take k) + bs.getD (who.getD k 0).toNat 0) % 18446744073709551616 else sums bs (who.take k) := by
  rw [List.take_succ_eq_append_getElem h, sums, List.foldl_append, List.getD_eq_getElem?_getD, List.getElem?_eq_getElem h]
  rfl

set_option maxRecDepth 100000 in
set_option maxHeartbeats 400000 in
theorem total_any (bs : List Int) (a : Option Addr) (l c : Nat) (s b : Int) (w : World) (hB : RowIn .u64 w a l c bs) :
    Calls Try.prog 42 #[.agg #[.slice a l c, .int .i64 s, .int .i64 b]] w fun e w' => e = .returned (.int .u64 (tot bs)) ∧ w' = w.alloc (cfg a l c s b) := by
  have hl := hB.len
  have hc := hB.cap
  unfold maxLen at hc
  have HB := hide hB
  clear hB
  go_enter Try.func42, Try.ntmps42
  go_wp2
  go_loop [3, 9] (fun x i => ∃ k : Nat, k ≤ l ∧ i = .int .i64 k ∧ x = .int .u64 (tot (bs.take k))) (fun x i => l - (intOf i).toNat)
  case atStart => exact ⟨0, Nat.zero_le _, rfl, rfl⟩
  case round =>
    obtain ⟨k, hk, rfl, rfl⟩ := hrel
    by_cases hlt : k < l
    · obtain ⟨b, off, rfl, hbs, hcn⟩ := (HB.out.alloc (.cells #[.slice a l c, .int .i64 s, .int .i64 b] 24)).cell k hlt
      have ht := tot_take bs k (by omega)
      obtain ⟨n, hn⟩ : ∃ n, Hid (bs.getD k 0 = n) := ⟨_, rfl⟩
      rw [hn.out] at hcn ht
      go_wp2
      go_round
      case rel => exact ⟨k + 1, by omega, by go_num, by rw [ht, IntKind.wrap_u64]⟩
      case measure => simp [intOf]; omega
    · have : k = l := by omega
      subst this
      rw [List.take_of_length_le (by omega)]
      go_wp2
      go_ret
      exact ⟨rfl, rfl⟩

set_option maxRecDepth 100000 in
set_option maxHeartbeats 400000 in
theorem sum_any (bs who : List Int) (a : Option Addr) (l c : Nat) (s b : Int) (a2 : Option Addr) (l2 c2 : Nat) (w : World) (hB : RowIn .u64 w a l c bs) (hW : RowIn .i64 w a2 l2 c2 who) :
    Calls Try.prog 68 #[.agg #[.slice a l c, .int .i64 s, .int .i64 b], .slice a2 l2 c2] w fun e w' => e = .returned (.int .u64 (sums bs who)) ∧ w' = w.alloc (cfg a l c s b) := by
  have hl := hB.len
  have hc := hB.cap
  have hl2 := hW.len
  have hc2 := hW.cap
  unfold maxLen at hc hc2
  have HB := hide hB
  have HW := hide hW
  clear hB hW
  go_enter Try.func68, Try.ntmps68
  go_wp2
  go_loop [5, 10] (fun x i => ∃ k : Nat, k ≤ l2 ∧ i = .int .i64 k ∧ x = .int .u64 (sums bs (who.take k))) (fun x i => l2 - (intOf i).toNat)
  case atStart => exact ⟨0, Nat.zero_le _, rfl, rfl⟩
  case round =>
    obtain ⟨k, hk, rfl, rfl⟩ := hrel
    by_cases hlt : k < l2
    · obtain ⟨g, off, rfl, hbs, hcn⟩ := (HW.out.alloc (.cells #[.slice a l c, .int .i64 s, .int .i64 b] 24)).cell k hlt
      have ht := sums_take bs who k (by omega)
      obtain ⟨v, hv⟩ : ∃ n, Hid (who.getD k 0 = n) := ⟨_, rfl⟩
      rw [hv.out] at hcn ht
      rw [hl] at ht
      by_cases h0 : 0 ≤ v
      · by_cases h1 : v < l
        · obtain ⟨j, rfl⟩ : ∃ j : Nat, v = j := ⟨v.toNat, by omega⟩
          obtain ⟨g1, off1, rfl, hbs1, hcn1⟩ := (HB.out.alloc (.cells #[.slice a l c, .int .i64 s, .int .i64 b] 24)).cell j (by omega)
          rw [if_pos ⟨h0, h1⟩, Int.toNat_natCast] at ht
          obtain ⟨n, hn⟩ : ∃ n, Hid (bs.getD j 0 = n) := ⟨_, rfl⟩
          rw [hn.out] at hcn1 ht
          go_wp2
          go_round
          case rel => exact ⟨k + 1, by omega, by go_num, by rw [ht, IntKind.wrap_u64]⟩
          case measure => simp [intOf]; omega
        · rw [if_neg (fun h => h1 h.2)] at ht
          go_wp2
          go_round
          case rel => exact ⟨k + 1, by omega, by go_num, by rw [ht]⟩
          case measure => simp [intOf]; omega
      · rw [if_neg (fun h => h0 h.1)] at ht
        go_wp2
        go_round
        case rel => exact ⟨k + 1, by omega, by go_num, by rw [ht]⟩
        case measure => simp [intOf]; omega
    · have : k = l2 := by omega
      subst this
      rw [List.take_of_length_le (by omega)]
      go_wp2
      go_ret
      exact ⟨rfl, rfl⟩
end Go.Proofs.Ytphahkjjmomjcaa

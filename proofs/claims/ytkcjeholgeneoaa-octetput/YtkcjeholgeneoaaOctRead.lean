/- Contracts of layer 1's reading functions (number, octet.Get, octet.Small, octet.First). -/
import Derived.Test.YtkcjeholgeneoaaRows
import Derived.Test.YtkcjeholgeneoaaOctMath
import Derived.WalkKit
import Derived.ProofKit
import Derived.OpenShut
import Derived.Below
import Derived.Deep.QuietTactic
import Derived.BigQuiet
import Derived.Outline
import Derived.WalkSpells
import Derived.WalkLawsBesides
namespace Go.Proofs.Ytkcjeholgeneoaa
open Go.ChangeShapes Go.WideShapes Go.ChangeAt Go.RowKit

theorem ret_int {k : IntKind} {a b : Int} (h : a = b) : Ending.returned (.int k a) = .returned (.int k b) := by rw [h]

set_option maxHeartbeats 400000 in
theorem number_any (zs : List Int) (b off n cap : Nat) (w : World) (hn : zs.length = n) (h8 : n ≤ 8)
    (hz : Bytes8 zs) (hc : ∀ i, i < n → w.cell? ⟨b, off + i, none⟩ = some (.int .u8 (zs.getD i 0))) :
    Calls Try.prog 12 #[.slice (some ⟨b, off, none⟩) n cap] w fun e w' => e = .returned (.int .u64 (num zs)) ∧ w' = w := by
  have hstep : ∀ k, (h : k < n) → Hid (IntKind.u64.wrap (IntKind.u64.wrap (num (zs.take k) * 256) + IntKind.u64.wrap (zs[k]'(by omega))) = num (zs.take (k + 1))) :=
    fun k hk => num_step zs hz k (by omega) (by omega)
  go_enter Try.func12, Try.ntmps12
  go_wp2
  go_loop [3, 4] (fun t i => ∃ k : Nat, k ≤ n ∧ i = .int .i64 k ∧ t = .int .u64 (num (zs.take k))) (fun _ i => n - (intOf i).toNat)
  case atStart => exact ⟨0, Nat.zero_le _, rfl, rfl⟩
  case round =>
    obtain ⟨k, hk, rfl, rfl⟩ := hrel
    by_cases hlt : k < n
    · have hcell := hc k hlt
      have hst := hstep k hlt
      clear hc hstep
      go_wp2
      go_round
      case rel => exact ⟨k + 1, by omega, by go_num, by rw [hst.out]⟩
      case measure => simp [intOf]; omega
    · go_wp2
      go_ret
      exact ⟨ret_int (by rw [List.take_of_length_le (by omega)]), rfl⟩

set_option maxHeartbeats 400000 in
theorem get_no (a0 : Option Addr) (n cap : Nat) (at_ : Int) (w : World) (hm : n ≤ maxLen) (h : at_ < 0 ∨ (n : Int) - 8 < at_) (hb : -9223372036854775808 ≤ at_ ∧ at_ ≤ 9223372036854775807) :
    Calls Try.prog 13 #[.slice a0 n cap, .int .i64 at_] w fun e w' => e = .returned (.tuple #[.int .u64 0, .int .i64 at_, .bool false]) ∧ w' = w := by
  unfold maxLen at hm
  by_cases h0 : at_ < 0
  · go_enter Try.func13, Try.ntmps13
    go_wp2
    go_ret3
    exact ⟨rfl, rfl⟩
  · have h1 : (n : Int) - 8 < at_ := by omega
    go_enter Try.func13, Try.ntmps13
    go_wp2
    go_ret3
    exact ⟨rfl, rfl⟩

set_option maxHeartbeats 400000 in
theorem get_yes (zs : List Int) (b off n cap : Nat) (p : Nat) (w : World) (hz : zs.length = 8) (hz8 : Bytes8 zs) (hn : n ≤ cap) (hm : cap ≤ maxLen) (h : p + 8 ≤ n)
    (hc : ∀ i, i < 8 → w.cell? ⟨b, off + p + i, none⟩ = some (.int .u8 (zs.getD i 0))) :
    Calls Try.prog 13 #[.slice (some ⟨b, off, none⟩) n cap, .int .i64 (p : Int)] w fun e w' => e = .returned (.tuple #[.int .u64 (num zs), .int .i64 ((p : Int) + 8), .bool true]) ∧ w' = w := by
  unfold maxLen at hm
  have h0 : ¬ ((p : Int) < 0) := by omega
  have h1 : ¬ ((n : Int) - 8 < (p : Int)) := by omega
  go_enter Try.func13, Try.ntmps13
  go_wp2
  go_loop [7, 26] (fun t i => ∃ k : Nat, k ≤ 8 ∧ i = .int .i64 k ∧ t = .int .u64 (num (zs.take k))) (fun _ i => 8 - (intOf i).toNat)
  case atStart => exact ⟨0, Nat.zero_le _, rfl, rfl⟩
  case round =>
    obtain ⟨k, hk, rfl, rfl⟩ := hrel
    by_cases hlt : k < 8
    · have hcell := hc k hlt
      have hst : Hid _ := or_step zs hz8 k (by omega) (by omega)
      clear hc
      go_wp2
      go_round
      case rel => exact ⟨k + 1, by omega, by go_num, by rw [hst.out]⟩
      case measure => simp [intOf]; omega
    · have ht : Hid (zs.take k = zs) := List.take_of_length_le (by omega)
      go_wp2
      go_ret3
      exact ⟨by rw [ht.out]; rfl, rfl⟩

set_option maxHeartbeats 400000 in
theorem small_noget (v : Value) (at_ most : Int) (w : World)
    (hg : Calls Try.prog 13 #[v, .int .i64 at_] w fun e w' => e = .returned (.tuple #[.int .u64 0, .int .i64 at_, .bool false]) ∧ w' = w) :
    Calls Try.prog 14 #[v, .int .i64 at_, .int .i64 most] w fun e w' => e = .returned (.tuple #[.int .i64 0, .int .i64 at_, .bool false]) ∧ w' = w := by
  have HG := hide (hg)
  clear hg
  go_enter Try.func14, Try.ntmps14
  go_wp2_with (go_at_call 13; refine Calls.mono HG.out ?_; rintro e w' ⟨rfl, rfl⟩)
  go_ret3
  exact ⟨rfl, rfl⟩

/-- a number is there: whether it is small enough -/
def smallB (n most : Int) : Bool := decide (0 ≤ most ∧ n ≤ most)
set_option maxHeartbeats 400000 in
theorem small_get (v : Value) (at_ most n e1 : Int) (w : World) (h0 : 0 ≤ n) (hn : n ≤ 18446744073709551615) (hm : most ≤ 9223372036854775807)
    (hg : Calls Try.prog 13 #[v, .int .i64 at_] w fun e w' => e = .returned (.tuple #[.int .u64 n, .int .i64 e1, .bool true]) ∧ w' = w) :
    Calls Try.prog 14 #[v, .int .i64 at_, .int .i64 most] w fun e w' =>
      e = .returned (if smallB n most then .tuple #[.int .i64 n, .int .i64 e1, .bool true] else .tuple #[.int .i64 0, .int .i64 at_, .bool false]) ∧ w' = w := by
  have HG := hide (hg)
  clear hg
  by_cases hneg : most < 0
  · have hs : smallB n most = false := by simp [smallB]; omega
    rw [hs, if_neg (by simp)]
    go_enter Try.func14, Try.ntmps14
    go_wp2_with (go_at_call 13; refine Calls.mono HG.out ?_; rintro e w' ⟨rfl, rfl⟩)
    go_ret3
    exact ⟨rfl, rfl⟩
  · by_cases hle : n ≤ most
    · have hs : smallB n most = true := by simp [smallB]; omega
      rw [hs, if_pos rfl]
      go_enter Try.func14, Try.ntmps14
      go_wp2_with (go_at_call 13; refine Calls.mono HG.out ?_; rintro e w' ⟨rfl, rfl⟩)
      go_ret3
      exact ⟨rfl, rfl⟩
    · have hs : smallB n most = false := by simp [smallB]; omega
      rw [hs, if_neg (by simp)]
      go_enter Try.func14, Try.ntmps14
      go_wp2_with (go_at_call 13; refine Calls.mono HG.out ?_; rintro e w' ⟨rfl, rfl⟩)
      go_ret3
      exact ⟨rfl, rfl⟩

set_option maxHeartbeats 800000 in
/-- where two rows part first; both not nil, or empty -/
theorem first_any (xs ys : List Int) (ax ay : Option Addr) (n m cx cy : Nat) (w : World) (hX : RowIn .u8 w ax n cx xs) (hY : RowIn .u8 w ay m cy ys) :
    Calls Try.prog 15 #[.slice ax n cx, .slice ay m cy] w fun e w' => e = .returned (.int .i64 (parts xs ys 0)) ∧ ∃ nq, w' = w.drewN nq := by
  have hx := hX.len
  have hy := hY.len
  have hmx : n ≤ maxLen := Nat.le_trans hX.cap.1 hX.cap.2
  have hmy : m ≤ maxLen := Nat.le_trans hY.cap.1 hY.cap.2
  have hcx := hX.cell
  have hcy := hY.cell
  clear hX hY
  unfold maxLen at hmx hmy
  have hmin : ((min n m : Nat) : Int) = min (n : Int) (m : Int) := by omega
  clear hmin
  have same : ∀ k, k < min n m → xs.take k = ys.take k → xs.getD k 0 = ys.getD k 0 → xs.take (k + 1) = ys.take (k + 1) := by
    intro k hk h he
    refine take_snoc_eq xs ys k (by omega) (by omega) h ?_
    simpa [List.getD_eq_getElem?_getD, List.getElem?_eq_getElem (show k < xs.length by omega), List.getElem?_eq_getElem (show k < ys.length by omega)] using he
  have part : ∀ k, k < min n m → xs.take k = ys.take k → ¬ xs.getD k 0 = ys.getD k 0 → parts xs ys 0 = k := by
    intro k hk h he
    refine parts_at xs ys k (by omega) (by omega) h ?_
    simpa [List.getD_eq_getElem?_getD, List.getElem?_eq_getElem (show k < xs.length by omega), List.getElem?_eq_getElem (show k < ys.length by omega)] using he
  have short : xs.take (min n m) = ys.take (min n m) → ¬ n = m → parts xs ys 0 = (min n m : Nat) := fun h hne => parts_short xs ys _ (by omega) h (by omega)
  have whole : xs.take (min n m) = ys.take (min n m) → n = m → parts xs ys 0 = -1 := by
    intro h e
    rw [List.take_of_length_le (by omega), List.take_of_length_le (by omega)] at h
    rw [h, parts_same]
  have HS := hide (same)
  have HP := hide (part)
  have HT := hide (short)
  have HW := hide (whole)
  clear same part short whole
  by_cases hmn : m < n
  all_goals
    go_enter Try.func15, Try.ntmps15
    go_wp2
    go_loopw [13] (fun i wr => ∃ k nq : Nat, k ≤ min n m ∧ i = .int .i64 k ∧ wr = w.drewN nq ∧ Hid (xs.take k = ys.take k)) (fun i _ => min n m - (intOf i).toNat)
    case atStart => exact ⟨0, 0, Nat.zero_le _, rfl, rfl, rfl⟩
    case round =>
      obtain ⟨k, nq, hk, rfl, rfl, hpre⟩ := hrel
      by_cases hlt : k < min n m
      · obtain ⟨bx, ox, rfl, _, hcx'⟩ := hcx k (by omega)
        obtain ⟨bY, oy, rfl, _, hcy'⟩ := hcy k (by omega)
        clear hcx hcy
        have l1 : (k : Int) < (n : Int) := by omega
        have l2 : (k : Int) < (m : Int) := by omega
        obtain ⟨x, hxk⟩ : ∃ x, Hid (xs.getD k 0 = x) := ⟨_, rfl⟩
        obtain ⟨y, hyk⟩ : ∃ y, Hid (ys.getD k 0 = y) := ⟨_, rfl⟩
        rw [hxk.out] at hcx'
        rw [hyk.out] at hcy'
        by_cases he : x = y
        · subst he
          go_wp2
          go_quiet (fail)
          go_wp2
          go_roundw
          case rel => exact ⟨k + 1, _, by omega, by go_num, rfl, HS.out k hlt hpre.out (hxk.out.trans hyk.out.symm)⟩
          case measure => simp [intOf]; omega
        · have hb : (x != y) = true := by simpa using he
          have hpp : Hid (parts xs ys 0 = (k : Int)) := HP.out k hlt hpre.out (by rw [hxk.out, hyk.out]; exact he)
          go_wp2
          go_quiet (fail)
          go_wp2
          go_ret
          exact ⟨ret_int hpp.out.symm, _, World.drewN_drewN _ _ _⟩
      · have hkk : k = min n m := by omega
        subst hkk
        by_cases hnm : n = m
        · have hpp : Hid (parts xs ys 0 = -1) := HW.out hpre.out hnm
          have hb : ((n : Int) != (m : Int)) = false := by simp [hnm]
          clear hcx hcy
          go_wp2
          go_ret
          exact ⟨ret_int hpp.out.symm, _, rfl⟩
        · have hpp : Hid (parts xs ys 0 = (min n m : Nat)) := HT.out hpre.out hnm
          have hb : ((n : Int) != (m : Int)) = true := by simp; omega
          clear hcx hcy
          go_wp2
          go_ret
          exact ⟨ret_int (by rw [hpp.out]; omega), _, rfl⟩
end Go.Proofs.Ytkcjeholgeneoaa

/- Contracts of config.Boost and config.May; the document's examples of layer 3 ('awake'). -/
import Derived.Test.YtlgmpjjamfdgkaaCfRead
namespace Go.Proofs.Ytlgmpjjamfdgkaa
open Go.ChangeShapes Go.WideShapes Go.ChangeAt Go.RowKit
set_option linter.unusedVariables false

def mx1 (s : Int) : Int := if s < 1 then 1 else s
def mx0 (s : Int) : Int := if s < 0 then 0 else s
/-- what a boost weighs, of all balances' sum -/
def bst (t s b : Int) : Int := t / mx1 s * mx0 b % 18446744073709551616 / 100

theorem tot_b (bs : List Int) : 0 ≤ tot bs ∧ tot bs ≤ 18446744073709551615 := by
  have h : ∀ (l : List Int) (x : Int), 0 ≤ x ∧ x ≤ 18446744073709551615 → 0 ≤ l.foldl (fun a b => (a + b) % 18446744073709551616) x ∧ l.foldl (fun a b => (a + b) % 18446744073709551616) x ≤ 18446744073709551615 := by
    intro l
    induction l with
    | nil => exact fun x h => h
    | cons b bs ih => exact fun x h => ih _ (show 0 ≤ (x + b) % 18446744073709551616 ∧ (x + b) % 18446744073709551616 ≤ 18446744073709551615 by omega)
  exact h bs 0 (by omega)
theorem quo_b (t m : Int) (ht : 0 ≤ t ∧ t ≤ 18446744073709551615) (hm : 1 ≤ m) : 0 ≤ t / m ∧ t / m ≤ t :=
  ⟨Int.ediv_nonneg ht.1 (by omega), Int.ediv_le_self _ ht.1⟩

theorem quo100 (x : Int) : IntKind.u64.wrap ((IntKind.u64.wrap x).tdiv 100) = x % 18446744073709551616 / 100 := by
  simp only [IntKind.wrap_u64]
  rw [Int.tdiv_eq_ediv_of_nonneg (by omega)]
  omega

set_option maxHeartbeats 400000 in
theorem boost_any (bs : List Int) (a : Option Addr) (l c : Nat) (s b : Int) (w : World) (hB : RowIn .u64 w a l c bs)
    (hs : -9223372036854775808 ≤ s ∧ s ≤ 9223372036854775807) (hb : -9223372036854775808 ≤ b ∧ b ≤ 9223372036854775807) :
    Calls Try.prog 11 #[.agg #[.slice a l c, .int .i64 s, .int .i64 b]] w fun e w' => e = .returned (.int .u64 (bst (tot bs) s b)) ∧ w' = (w.alloc (cfg a l c s b)).alloc (cfg a l c s b) := by
  have HB := hide (hB.alloc (.cells #[.slice a l c, .int .i64 s, .int .i64 b] 24))
  have htb := tot_b bs
  clear hB
  obtain ⟨t, ht⟩ : ∃ t, Hid (tot bs = t) := ⟨_, rfl⟩
  rw [ht.out] at htb
  by_cases h1 : s < 1
  all_goals by_cases h2 : b < 0
  all_goals
    go_enter Try.func11, Try.ntmps11
    go_wp2_with (go_at_call 9; refine (total_any bs _ _ _ _ _ _ HB.out).mono ?_; rintro e w1 ⟨rfl, rfl⟩; rw [ht.out])
    go_ret
    refine ⟨ret_int ?_, rfl⟩
    rw [ht.out]
    unfold bst mx1 mx0
    first
      | rw [if_pos h1, if_pos h2]; simp
      | rw [if_pos h1, if_neg (by omega), quo100, Int.ediv_one]
      | rw [if_neg (by omega), if_pos h2]; simp
      | rw [if_neg (by omega), if_neg (by omega), quo100]

def mayB (bs : List Int) (s b : Int) : Bool := decide (1 ≤ bs.length ∧ bs.length ≤ 4096 ∧ (∀ z ∈ bs, z ≤ 4294967296) ∧ 1 ≤ s ∧ s ≤ 64 ∧ 0 ≤ b ∧ b ≤ 100)

set_option maxHeartbeats 400000 in
theorem may_any (bs : List Int) (a : Option Addr) (l c : Nat) (s b : Int) (w : World) (hB : RowIn .u64 w a l c bs) :
    Calls Try.prog 12 #[.agg #[.slice a l c, .int .i64 s, .int .i64 b]] w fun e w' => e = .returned (.bool (mayB bs s b)) ∧ w' = w.alloc (cfg a l c s b) := by
  have hl := hB.len
  have hc := hB.cap
  unfold maxLen at hc
  have HB := hide (hB.alloc (.cells #[.slice a l c, .int .i64 s, .int .i64 b] 24))
  clear hB
  by_cases h1 : l < 1
  · go_enter Try.func12, Try.ntmps12
    go_wp2
    go_ret
    exact ⟨ret_bool (by unfold mayB; symm; apply decide_eq_false; omega), rfl⟩
  by_cases h2 : 4096 < l
  · go_enter Try.func12, Try.ntmps12
    go_wp2
    go_ret
    exact ⟨ret_bool (by unfold mayB; symm; apply decide_eq_false; omega), rfl⟩
  go_enter Try.func12, Try.ntmps12
  go_wp2
  go_loop [18] (fun i => ∃ k : Nat, k ≤ l ∧ i = .int .i64 k ∧ ∀ z ∈ bs.take k, z ≤ 4294967296) (fun i => l - (intOf i).toNat)
  case atStart => exact ⟨0, Nat.zero_le _, rfl, by simp⟩
  case round =>
    obtain ⟨k, hk, rfl, hz⟩ := hrel
    by_cases hlt : k < l
    · obtain ⟨g, off, rfl, hbs, hcn⟩ := HB.out.cell k hlt
      obtain ⟨n, hn⟩ : ∃ n, Hid (bs.getD k 0 = n) := ⟨_, rfl⟩
      have hm : n ∈ bs := by
        rw [← hn.out, List.getD_eq_getElem?_getD, List.getElem?_eq_getElem (show k < bs.length by omega)]; exact List.getElem_mem _
      have hz1 : Hid (n ≤ 4294967296 → ∀ z ∈ bs.take (k + 1), z ≤ 4294967296) := by
        intro h z hzm
        rw [List.take_succ_eq_append_getElem (show k < bs.length by omega)] at hzm
        rcases List.mem_append.1 hzm with h1 | h1
        · exact hz z h1
        · have := hn.out
          rw [List.getD_eq_getElem?_getD, List.getElem?_eq_getElem (show k < bs.length by omega)] at this
          simp at h1 this
          omega
      rw [hn.out] at hcn
      by_cases h3 : 4294967296 < n
      · go_wp2
        go_ret
        exact ⟨ret_bool (by unfold mayB; symm; apply decide_eq_false; intro h; have := h.2.2.1 n hm; omega), rfl⟩
      · go_wp2
        go_round
        case rel => exact ⟨k + 1, by omega, by go_num, hz1.out (by omega)⟩
        case measure => simp [intOf]; omega
    · have : k = l := by omega
      subst this
      rw [List.take_of_length_le (by omega)] at hz
      have HZ := hide hz
      clear hz
      have hm : Hid (mayB bs s b = decide (1 ≤ s ∧ s ≤ 64 ∧ 0 ≤ b ∧ b ≤ 100)) := by
        have h : mayB bs s b = decide (1 ≤ s ∧ s ≤ 64 ∧ 0 ≤ b ∧ b ≤ 100) := by
          unfold mayB
          exact decide_eq_decide.2 ⟨fun h => h.2.2.2, fun h => ⟨by omega, by omega, HZ.out, h⟩⟩
        exact h
      by_cases g1 : 1 ≤ s
      all_goals by_cases g2 : s ≤ 64
      all_goals by_cases g3 : 0 ≤ b
      all_goals by_cases g4 : b ≤ 100
      all_goals
        first | omega | skip
      all_goals
        go_wp2
        go_ret
        exact ⟨ret_bool (by rw [hm.out]; symm; first | (apply decide_eq_true; omega) | (apply decide_eq_false; omega)), rfl⟩

set_option maxHeartbeats 400000 in
theorem awake_any (w : World) : Calls Try.prog 7 #[] w fun e w' => e = .returned (.bool true) ∧ Below w.heap.size w w' := by
  have e1 : mayB [10, 20, 30] 2 50 = true := by decide
  have e2 : tot [10, 20, 30] = 60 := by decide
  have e3 : bst 60 2 50 = 15 := by decide
  have hR := RowIn.lit .u64 w w.heap.size #[.int .u64 10, .int .u64 20, .int .u64 30] 27 (0, 0) 3 3 [10, 20, 30] rfl rfl rfl (by simp [maxLen])
  have HR := hide hR
  clear hR
  go_enter Try.func7, Try.ntmps7
  go_wp2_with (first
    | (go_at_call 12; refine (may_any [10, 20, 30] _ _ _ _ _ _ (HR.out.alloc _)).mono ?_; rintro e w' ⟨rfl, rfl⟩; rw [e1])
    | (go_at_call 9; refine (total_any [10, 20, 30] _ _ _ _ _ _ ((HR.out.alloc _).alloc _)).mono ?_; rintro e w' ⟨rfl, rfl⟩; rw [e2])
    | (go_at_call 11; refine (boost_any [10, 20, 30] _ _ _ _ _ _ (((HR.out.alloc _).alloc _).alloc _) (by omega) (by omega)).mono ?_; rintro e w' ⟨rfl, rfl⟩; rw [e2, e3]))
  go_ret
  exact ⟨rfl, ((((((Below.refl _ _).alloc (Nat.le_refl _) _).trans ((below_cfg _ _).mono (by simp))).trans ((below_cfg _ _).mono (by simp <;> omega))).trans ((below_cfg _ _).mono (by simp <;> omega))).trans ((below_cfg _ _).mono (by simp <;> omega))).trans ((below_cfg _ _).mono (by simp <;> omega))⟩
end Go.Proofs.Ytlgmpjjamfdgkaa

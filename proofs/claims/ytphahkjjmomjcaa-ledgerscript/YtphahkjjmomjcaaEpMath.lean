/- Plain facts on slots and epochs. -/
import Derived.Test.YtphahkjjmomjcaaEpAwake

namespace Go.Proofs.Ytphahkjjmomjcaa

open Go.ChangeShapes Go.WideShapes Go.ChangeAt Go.RowKit
theorem wf_u32 {a : Int} (h : (Lit.int .u32 a).wf = true) : 0 ≤ a ∧ a ≤ 4294967295 := by
  simpa [Lit.wf, IntKind.min, IntKind.max, IntKind.signed, IntKind.bits] using h
theorem wf_u8 {a : Int} (h : (Lit.int .u8 a).wf = true) : 0 ≤ a ∧ a ≤ 255 := by
  simpa [Lit.wf, IntKind.min, IntKind.max, IntKind.signed, IntKind.bits] using h
theorem lo0_in (s : Int) (h : 0 ≤ s) : lo0 s = s := by unfold lo0; split <;> omega
theorem lo1_in (s : Int) (h : 1 ≤ s) : lo1 s = s := by unfold lo1; split <;> omega
theorem mul_b (e n : Int) (he : 0 ≤ e ∧ e ≤ 4294967295) (hn : 1 ≤ n ∧ n ≤ 64) : 0 ≤ e * n ∧ e * n ≤ 274877906880 ∧ (1 ≤ e → n ≤ e * n) := by
  refine ⟨Int.mul_nonneg he.1 (by omega), ?_, fun h => ?_⟩
  · have := Int.mul_le_mul he.2 hn.2 (by omega) (by omega)
    omega
  · have := Int.mul_le_mul_of_nonneg_right h (show 0 ≤ n by omega)
    omega
theorem epo_in (e n k : Int) (he : 0 ≤ e) (hn : 1 ≤ n) (hk : 0 ≤ k ∧ k < n) : epo (e * n + k) n = e := by
  have h0 : 0 ≤ e * n := Int.mul_nonneg he (by omega)
  rw [epo, lo0_in _ (by omega), lo1_in _ hn, Int.add_comm, Int.add_mul_ediv_right _ _ (by omega), Int.ediv_eq_zero_of_lt hk.1 hk.2]
  omega
theorem fir_in (e n k : Int) (he : 0 ≤ e) (hn : 1 ≤ n) (hk : 0 ≤ k ∧ k < n) : firB (e * n + k) n = (k == 0) := by
  have h0 : 0 ≤ e * n := Int.mul_nonneg he (by omega)
  have h1 : 0 ≤ e * n + k := by omega
  rw [firB, lo1_in _ hn, Int.add_comm, Int.add_mul_emod_self_right, Int.emod_eq_of_lt hk.1 hk.2]
  have h2 : 0 ≤ k + e * n := by omega
  simp [h2]; rfl
theorem wf_u16 {a : Int} (h : (Lit.int .u16 a).wf = true) : 0 ≤ a ∧ a ≤ 65535 := by
  simpa [Lit.wf, IntKind.min, IntKind.max, IntKind.signed, IntKind.bits] using h
theorem wf_i8 {a : Int} (h : (Lit.int .i8 a).wf = true) : -128 ≤ a ∧ a ≤ 127 := by
  simpa [Lit.wf, IntKind.min, IntKind.max, IntKind.signed, IntKind.bits] using h
theorem epo_pos (a n : Int) (ha : 0 ≤ a) (hn : 1 ≤ n) : epo a n = a / n := by rw [epo, lo0_in _ ha, lo1_in _ hn]
theorem fir_pos (a n : Int) (ha : 0 ≤ a) (hn : 1 ≤ n) : firB a n = decide (a % n = 0) := by simp [firB, lo1_in _ hn, ha]
theorem epo_mono (a b n : Int) (hab : a ≤ b) (ha : 0 ≤ a) (hn : 1 ≤ n) : epo a n ≤ epo b n := by
  rw [epo_pos a n ha hn, epo_pos b n (by omega) hn]
  exact Int.ediv_le_ediv (by omega) hab
theorem epo_le (a b n : Int) (hab : a ≤ b) (ha : 0 ≤ a) (hn : 1 ≤ n) : epo b n - epo a n ≤ b - a := by
  rw [epo_pos a n ha hn, epo_pos b n (by omega) hn]
  have h1 : b / n ≤ (a + (b - a) * n) / n := Int.ediv_le_ediv (by omega) (by
    have : (b - a) * 1 ≤ (b - a) * n := Int.mul_le_mul_of_nonneg_left hn (by omega)
    omega)
  rw [Int.add_mul_ediv_right _ _ (by omega)] at h1
  omega
theorem epo_next (s n : Int) (hs : 0 ≤ s) (hn : 1 ≤ n) : ((s + 1) % n = 0 ∧ epo (s + 1) n = epo s n + 1) ∨ ((s + 1) % n ≠ 0 ∧ epo (s + 1) n = epo s n) := by
  rw [epo_pos s n hs hn, epo_pos (s + 1) n (by omega) hn]
  have d1 := Int.mul_ediv_add_emod (s + 1) n
  have m1 := Int.emod_nonneg (s + 1) (show n ≠ 0 by omega)
  have m2 := Int.emod_lt_of_pos (s + 1) (show 0 < n by omega)
  by_cases h : (s + 1) % n = 0
  · refine .inl ⟨h, ?_⟩
    have e : s = (n - 1) + ((s + 1) / n - 1) * n := by
      rw [Int.sub_mul, Int.one_mul, Int.mul_comm]
      omega
    have h3 : s / n = (s + 1) / n - 1 := by
      rw [e, Int.add_mul_ediv_right _ _ (by omega), Int.ediv_eq_zero_of_lt (by omega) (by omega), ← e]
      omega
    omega
  · refine .inr ⟨h, ?_⟩
    have e : s = ((s + 1) % n - 1) + ((s + 1) / n) * n := by
      rw [Int.mul_comm]
      omega
    have h3 : s / n = (s + 1) / n := by
      rw [e, Int.add_mul_ediv_right _ _ (by omega), Int.ediv_eq_zero_of_lt (by omega) (by omega), ← e]
      omega
    omega
/-- epoch.Ends, whether there are any or none -/
theorem ends_row (a b s : Int) (m : Nat) (w : World) (ha : -9223372036854775808 ≤ a ∧ a ≤ 9223372036854775807) (hb : -9223372036854775808 ≤ b ∧ b ≤ 9223372036854775807) (hs : -9223372036854775808 ≤ s ∧ s ≤ 9223372036854775807)
    (hm : ends a b s = (m : Int)) :
    Calls Try.prog 51 #[.int .i64 a, .int .i64 b, .int .i64 s] w fun e w' =>
      ∃ ao, e = .returned (.slice ao m m) ∧ w'.ownsRow w.heap.size 3 1 (.slice ao m m) m ((run (epo a s) m).map (Value.int .i64)) ∧ Below w.heap.size w w' := by
  by_cases h0 : m = 0
  · subst h0
    refine (ends_none a b s w ha hb hs (by omega)).mono ?_
    rintro e w' ⟨rfl, rfl⟩
    exact ⟨none, rfl, World.ownsRow_nil _ _ _ _, Below.refl _ _⟩
  · refine (ends_some a b s m w ha hb hs (by omega) hm).mono ?_
    rintro e w' ⟨rfl, ho, hb⟩
    exact ⟨_, rfl, ho, hb⟩
end Go.Proofs.Ytphahkjjmomjcaa

/- Contracts of psephoslaw07's times and atLeast: products without a limit. -/
import Derived.Test.YtikehicojmcmiaaQRead

namespace Go.Proofs.Ytikehicojmcmiaa

open Go.ChangeShapes Go.WideShapes Go.ChangeAt Go.RowKit

set_option linter.unusedVariables false

theorem ret_two {k l : IntKind} {a b c d : Int} (h : a = b) (h' : c = d) : Ending.returned (.tuple #[.int k a, .int l c]) = .returned (.tuple #[.int k b, .int l d]) := by rw [h, h']

set_option maxHeartbeats 400000 in
theorem times_any (n k : Int) (w : World) (hn : 0 ≤ n ∧ n ≤ 18446744073709551615) (hk : k = 1 ∨ k = 2 ∨ k = 3) :
    Calls Try.prog 15 #[.int .u64 n, .int .u64 k] w fun e w' => e = .returned (.tuple #[.int .u64 (n * k / 4294967296), .int .u64 (n * k % 4294967296)]) ∧ w' = w := by
  rcases hk with rfl | rfl | rfl
  all_goals
    go_enter Try.func15, Try.ntmps15
    go_wp2
    go_ret2
    exact ⟨ret_two (by omega) (by omega), rfl⟩

theorem hilo (x : Int) (h : 0 ≤ x ∧ x ≤ 55340232221128654845) : 0 ≤ x / 4294967296 ∧ x / 4294967296 ≤ 12884901888 ∧ 0 ≤ x % 4294967296 ∧ x % 4294967296 < 4294967296 ∧ x = (x / 4294967296) * 4294967296 + x % 4294967296 := by omega
/-- are i times a at least k times b? -/
def alB (a i b k : Int) : Bool := decide (b * k ≤ a * i)

set_option maxHeartbeats 1000000 in
theorem atLeast_any (a i b k : Int) (w : World) (ha : 0 ≤ a ∧ a ≤ 18446744073709551615) (hi : i = 1 ∨ i = 2 ∨ i = 3) (hb : 0 ≤ b ∧ b ≤ 18446744073709551615) (hk : k = 1 ∨ k = 2 ∨ k = 3) :
    Calls Try.prog 12 #[.int .u64 a, .int .u64 i, .int .u64 b, .int .u64 k] w fun e w' => e = .returned (.bool (alB a i b k)) ∧ w' = w := by
  have b1 : 0 ≤ a * i ∧ a * i ≤ 55340232221128654845 := by rcases hi with rfl | rfl | rfl <;> omega
  have b2 : 0 ≤ b * k ∧ b * k ≤ 55340232221128654845 := by rcases hk with rfl | rfl | rfl <;> omega
  have H1 := hide (times_any a i w ha hi)
  have H2 := hide (times_any b k w hb hk)
  obtain ⟨x, hx⟩ : ∃ x, Hid (a * i = x) := ⟨_, rfl⟩
  obtain ⟨y, hy⟩ : ∃ y, Hid (b * k = y) := ⟨_, rfl⟩
  have e : alB a i b k = decide (y ≤ x) := by unfold alB; rw [hx.out, hy.out]
  rw [e]
  rw [hx.out] at b1 H1
  rw [hy.out] at b2 H2
  clear e hx hy
  have p1 := hilo x b1
  have p2 := hilo y b2
  generalize x / 4294967296 = h at H1 p1
  generalize x % 4294967296 = l at H1 p1
  generalize y / 4294967296 = g at H2 p2
  generalize y % 4294967296 = m at H2 p2
  clear b1 b2
  have key : (g < h ∧ y ≤ x) ∨ (h = g ∧ m ≤ l ∧ y ≤ x) ∨ (h = g ∧ l < m ∧ ¬ y ≤ x) ∨ (h < g ∧ ¬ y ≤ x) := by omega
  rcases key with ⟨h1, h3⟩ | ⟨h1, h2, h3⟩ | ⟨h1, h2, h3⟩ | ⟨h1, h3⟩
  all_goals
    clear p1 p2
    first | rw [decide_eq_true h3] | rw [decide_eq_false h3]
    clear h3
    try subst h1
    go_enter Try.func12, Try.ntmps12
    go_wp2_with fail
    refine Calls.mono H1.out ?_
    rintro e w' ⟨rfl, hw⟩; obtain rfl : _ = w' := hw.symm
    go_wp2_with fail
    refine Calls.mono H2.out ?_
    rintro e w' ⟨rfl, hw⟩; obtain rfl : _ = w' := hw.symm
    go_wp2
    go_ret
    refine ⟨ret_bool ?_, rfl⟩
    first | rfl | exact decide_eq_true (by omega) | exact decide_eq_false (by omega)
end Go.Proofs.Ytikehicojmcmiaa

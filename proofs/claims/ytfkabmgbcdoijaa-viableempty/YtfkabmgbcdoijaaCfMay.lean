/- Contracts of config.Boost and config.May; the document's examples of layer 3 ('awake'). -/
import Derived.Test.YtfkabmgbcdoijaaCfRead

namespace Go.Proofs.Ytfkabmgbcdoijaa

open Go.ChangeShapes Go.WideShapes Go.ChangeAt Go.RowKit

set_option linter.unusedVariables false

def mx1 (s : Int) : Int := if s < 1 then 1 else s
def mx0 (s : Int) : Int := if s < 0 then 0 else s
/-- what a boost weighs, of all balances' sum -/
def bst (t s b : Int) : Int := t / mx1 s * mx0 b % 18446744073709551616 / 100

theorem tot_b (bs : List Int) : 0 ≤ tot bs ∧ tot bs ≤ 18446744073709551615 := by
  have h : ∀ (l : List Int) (x : Int), 0 ≤ x ∧ x ≤ 18446744073709551615 → 0 ≤ l.foldl (fun a b => (a + b) % 18446744073709551616) x ∧ l.foldl (fun a b => (a + b) % 18446744073709551616) x ≤ 18446744073709551615 := by
    intro l
    induction l with
    | nil => exact fun x h => h
    | cons b bs ih => exact fun x h => ih _ (show 0 ≤ (x + b) % 18446744073709551616 ∧ (x + b) % 18446744073709551616 ≤ 18446744073709551615 by omega)
  exact h bs 0 (by omega)
theorem quo_b (t m : Int) (ht : 0 ≤ t ∧ t ≤ 18446744073709551615) (hm : 1 ≤ m) : 0 ≤ t / m ∧ t / m ≤ t :=
  ⟨Int.ediv_nonneg ht.1 (by omega), Int.ediv_le_self _ ht.1⟩

theorem quo100 (x : Int) : IntKind.u64.wrap ((IntKind.u64.wrap x).tdiv 100) = x % 18446744073709551616 / 100 := by
  simp only [IntKind.wrap_u64]
  rw [Int.tdiv_eq_ediv_of_nonneg (by omega)]
  omega

def mayB (bs : List Int) (s b : Int) : Bool := decide (1 ≤ bs.length ∧ bs.length ≤ 4096 ∧ (∀ z ∈ bs, z ≤ 4294967296) ∧ 1 ≤ s ∧ s ≤ 64 ∧ 0 ≤ b ∧ b ≤ 100)

end Go.Proofs.Ytfkabmgbcdoijaa

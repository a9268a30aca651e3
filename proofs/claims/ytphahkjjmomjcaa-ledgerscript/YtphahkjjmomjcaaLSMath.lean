/- Epochs that end between two slots, one by one: plainly, for long scripts. -/
import Derived.Test.YtphahkjjmomjcaaLAdv

import Derived.Test.YtphahkjjmomjcaaEpMath

namespace Go.Proofs.Ytphahkjjmomjcaa

open Go.RowKit

set_option linter.unusedVariables false

theorem epo_mulN (q s : Int) (hq : 0 ≤ q ∧ q ≤ 36028797018963968) (hs : 1 ≤ s ∧ s ≤ 64) : epo (wrap64 (q * s)) s = q := by
  have h1 : 0 ≤ q * s := Int.mul_nonneg hq.1 (by omega)
  have h2 : q * s ≤ 36028797018963968 * 64 := Int.mul_le_mul hq.2 hs.2 (by omega) (by omega)
  have h3 : wrap64 (q * s) = q * s := by unfold wrap64; omega
  rw [h3]
  unfold epo lo0 lo1
  rw [if_neg (by omega), if_neg (by omega)]
  exact Int.mul_ediv_cancel _ (by omega)
theorem epo_ofN (t s : Int) (ht : 0 ≤ t) (hs : 1 ≤ s) : epo t s = t / s := by unfold epo lo0 lo1; rw [if_neg (by omega), if_neg (by omega)]
theorem adv_fromN (bs : List Int) (s : Int) (f : Int → Int) (S : LS) (t : Int) (he : 0 ≤ S.e ∧ S.e ≤ 36028797018963968) (hs : 1 ≤ s ∧ s ≤ 64) (ht : 0 ≤ t) (hd : t / s - S.e < 4096) : advS bs s f S t = advK bs s f S S.e (t / s - S.e).toNat := by
  unfold advS
  have h1 := epo_mulN S.e s he hs
  have h2 := epo_ofN t s ht hs.1
  unfold ends
  rw [h1, h2, if_pos hd]
/-- slots go by: what comes, and of which epoch it is -/
theorem adv_by (bs : List Int) (s : Int) (f : Int → Int) (S : LS) (t d : Int) (he : S.e = t / s) (ht : 0 ≤ t ∧ t ≤ 36028797018963968) (hd : 0 ≤ d ∧ d ≤ 255) (hs : 1 ≤ s ∧ s ≤ 64) :
    advS bs s f S (t + d) = advK bs s f S S.e ((t + d) / s - S.e).toNat ∧ (advS bs s f S (t + d)).e = (t + d) / s ∧ S.e ≤ (t + d) / s := by
  have q1 : 0 ≤ t / s ∧ t / s ≤ 36028797018963968 := ⟨Int.ediv_nonneg ht.1 (by omega), Int.le_trans (Int.ediv_le_self _ ht.1) ht.2⟩
  have q2 : t / s ≤ (t + d) / s := Int.ediv_le_ediv (by omega) (by omega)
  have q3 : (t + d) / s ≤ t / s + 255 := by
    have h1 : t + d ≤ t + 255 * s := by
      have : d ≤ 255 * s := by omega
      omega
    have h2 := Int.ediv_le_ediv (show (0 : Int) < s by omega) h1
    rwa [Int.add_mul_ediv_right _ _ (by omega)] at h2
  have e1 := adv_fromN bs s f S (t + d) (by omega) hs (by omega) (by omega)
  refine ⟨e1, ?_, by omega⟩
  rw [e1, advK_e]
  split <;> omega
end Go.Proofs.Ytphahkjjmomjcaa

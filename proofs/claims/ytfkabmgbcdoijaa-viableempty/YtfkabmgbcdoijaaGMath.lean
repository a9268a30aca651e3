/- What a block has, as plain numbers: sums of the balances of those whose votes stand on it. -/
import Derived.Test.YtfkabmgbcdoijaaEntMath

import Derived.Test.YtfkabmgbcdoijaaCfMay

import Derived.Test.YtfkabmgbcdoijaaTOne

namespace Go.Proofs.Ytfkabmgbcdoijaa

open Go.ChangeShapes Go.WideShapes Go.ChangeAt Go.RowKit

set_option linter.unusedVariables false

/-- of the first k validators: the balances of those whose votes are for blocks of which p holds -/
def tvK (p : Int → Bool) (es : List Ent) (bal : List Int) : Nat → Int
  | 0 => 0
  | k + 1 => tvK p es bal k + (bif getB' es (k : Int) && p (getR es (k : Int)) then one bal (k : Int) else 0)
/-- one of the first k voted for a block -/
def hasK (x : Int) (es : List Ent) : Nat → Bool
  | 0 => false
  | k + 1 => hasK x es k || (getB' es (k : Int) && getR es (k : Int) == x)
def tv (p : Int → Bool) (es : List Ent) (bal : List Int) : Int := tvK p es bal es.length

theorem tvK_congr {p q : Int → Bool} {es es' : List Ent} {bal : List Int} : ∀ k : Nat, (∀ j : Nat, j < k → getB' es (j : Int) = getB' es' (j : Int) ∧ (getB' es' (j : Int) = true → p (getR es (j : Int)) = q (getR es' (j : Int)))) → tvK p es bal k = tvK q es' bal k
  | 0, _ => rfl
  | k + 1, h => by
    have h1 := h k (by omega)
    simp only [tvK]
    rw [tvK_congr k (fun j hj => h j (by omega)), h1.1]
    cases hb : getB' es' (k : Int)
    · rfl
    · rw [h1.2 hb]
theorem tvK_add {p q r : Int → Bool} {es : List Ent} {bal : List Int} : ∀ k : Nat, (∀ j : Nat, j < k → getB' es (j : Int) = true → p (getR es (j : Int)) = (q (getR es (j : Int)) || r (getR es (j : Int))) ∧ ¬ (q (getR es (j : Int)) = true ∧ r (getR es (j : Int)) = true)) → tvK p es bal k = tvK q es bal k + tvK r es bal k
  | 0, _ => rfl
  | k + 1, h => by
    have h1 := h k (by omega)
    simp only [tvK]
    rw [tvK_add k (fun j hj => h j (by omega))]
    cases hb : getB' es (k : Int)
    · simp
    · obtain ⟨h2, h3⟩ := h1 hb
      rw [h2]
      cases hq : q (getR es (k : Int)) <;> cases hr : r (getR es (k : Int)) <;> simp_all <;> omega
theorem tvK_none {p : Int → Bool} {es : List Ent} {bal : List Int} : ∀ k : Nat, (∀ j : Nat, j < k → getB' es (j : Int) = true → p (getR es (j : Int)) = false) → tvK p es bal k = 0
  | 0, _ => rfl
  | k + 1, h => by
    simp only [tvK]
    rw [tvK_none k (fun j hj => h j (by omega))]
    cases hb : getB' es (k : Int)
    · simp
    · rw [h k (by omega) hb]; simp
theorem hasK_of {es : List Ent} : ∀ (k j : Nat), j < k → getB' es (j : Int) = true → hasK (getR es (j : Int)) es k = true
  | k + 1, j, hj, hb => by
    simp only [hasK]
    by_cases e : j = k
    · subst e
      rw [hb]
      simp
    · rw [hasK_of k j (by omega) hb]
      rfl
theorem hasK_none {x : Int} {es : List Ent} : ∀ (k : Nat), hasK x es k = false → ∀ j : Nat, j < k → getB' es (j : Int) = true → (getR es (j : Int) == x) = false := by
  intro k h j hj hb
  cases hx : getR es (j : Int) == x with
  | false => rfl
  | true =>
    rw [← eq_of_beq hx, hasK_of k j hj hb] at h
    cases h

/-- what the map of sums has -/
def fK (es : List Ent) (bal : List Int) (k : Nat) (r : Int) : Option Int := bif hasK r es k then some (tvK (fun x => x == r) es bal k % 18446744073709551616) else none
theorem fK_get (es : List Ent) (bal : List Int) (k : Nat) (r : Int) : (fK es bal k r).getD 0 = tvK (fun x => x == r) es bal k % 18446744073709551616 := by
  unfold fK
  cases h : hasK r es k
  · rw [tvK_none k (fun j hj hb => hasK_none k h j hj hb)]
    rfl
  · rfl
theorem fK_skip {es : List Ent} {bal : List Int} {k : Nat} (h : getB' es (k : Int) = false) (r : Int) : fK es bal (k + 1) r = fK es bal k r := by
  unfold fK
  simp only [hasK, tvK, h, Bool.false_and, Bool.or_false, cond_false, Int.add_zero]
theorem fK_step {es : List Ent} {bal : List Int} {k : Nat} (h : getB' es (k : Int) = true) (r : Int) :
    fK es bal (k + 1) r = if r = getR es (k : Int) then some (((fK es bal k (getR es (k : Int))).getD 0 + one bal (k : Int)) % 18446744073709551616) else fK es bal k r := by
  rw [fK_get]
  unfold fK
  simp only [hasK, tvK, h, Bool.true_and]
  by_cases e : r = getR es (k : Int)
  · subst e
    simp only [beq_self_eq_true, Bool.or_true, cond_true, if_true]
    congr 1
    omega
  · have : (getR es (k : Int) == r) = false := by
      simp only [beq_eq_false_iff_ne, ne_eq]
      exact fun h => e h.symm
    simp only [this, Bool.or_false, cond_false, Int.add_zero, if_neg e]

/-- what a block has: the boost, and the votes on it -/
def ofV (bo : Int) (below : Int → Bool) (es : List Ent) (bal : List Int) : Int := (bo + tv below es bal) % 18446744073709551616
/-- while the sums are gone through -/
def ofL (bo : Int) (below left : Int → Bool) (es : List Ent) (bal : List Int) : Int := (bo + tv (fun x => !left x && below x) es bal) % 18446744073709551616
theorem ofL_start {bo : Int} {below left : Int → Bool} {es : List Ent} {bal : List Int} (hb : 0 ≤ bo ∧ bo ≤ 18446744073709551615) (h : ∀ x, left x = (fK es bal es.length x).isSome) : ofL bo below left es bal = bo := by
  unfold ofL tv
  rw [tvK_none]
  · omega
  · intro j hj hb
    rw [h]
    unfold fK
    rw [hasK_of _ j hj hb]
    rfl
theorem ofL_end {bo : Int} {below left : Int → Bool} {es : List Ent} {bal : List Int} (h : ∀ x, left x = false) : ofL bo below left es bal = ofV bo below es bal := by
  unfold ofL ofV
  congr 2
  unfold tv
  exact tvK_congr _ (fun j hj => ⟨rfl, fun _ => by rw [h]; rfl⟩)
theorem ofL_step {bo : Int} {below left left' : Int → Bool} {es : List Ent} {bal : List Int} {x c : Int} (hl : left x = true) (hc : c = (fK es bal es.length x).getD 0) (h : ∀ y, left' y = (left y && !(y == x))) :
    ofL bo below left' es bal = bif below x then (ofL bo below left es bal + c) % 18446744073709551616 else ofL bo below left es bal := by
  rw [hc, fK_get]
  unfold ofL tv
  cases hb : below x
  · simp only [cond_false]
    congr 2
    refine tvK_congr _ (fun j hj => ⟨rfl, fun _ => ?_⟩)
    rw [h]
    by_cases e : getR es (j : Int) = x
    · rw [e, hb]; simp
    · have : (getR es (j : Int) == x) = false := by simpa using e
      rw [this]; simp
  · simp only [cond_true]
    rw [tvK_add (p := fun y => !left' y && below y) (q := fun y => !left y && below y) (r := fun y => y == x)]
    · omega
    · intro j hj _
      rw [h]
      by_cases e : getR es (j : Int) = x
      · rw [e, hb, hl]; simp
      · have : (getR es (j : Int) == x) = false := by simpa using e
        rw [this]; simp

/-! ### votes that come one by one -/
/-- those from k on have none -/
def Fresh (es : List Ent) (k : Nat) : Prop := ∀ j, k ≤ j → entK es j = Ent.zero
theorem getB_zero {es : List Ent} {j : Nat} (h : entK es j = Ent.zero) : getB' es (j : Int) = false := by
  unfold getB'
  rw [Int.toNat_natCast, h]
  cases ctB es (j : Int) <;> rfl
theorem tvK_fresh {p : Int → Bool} {es : List Ent} {bal : List Int} {k : Nat} (h : Fresh es k) : ∀ d : Nat, tvK p es bal (k + d) = tvK p es bal k
  | 0 => rfl
  | d + 1 => by
    rw [← Nat.add_assoc]
    simp only [tvK]
    rw [tvK_fresh h d, getB_zero (h (k + d) (by omega))]
    simp
theorem tv_fresh {p : Int → Bool} {es : List Ent} {bal : List Int} {k : Nat} (h : Fresh es k) (hk : k ≤ es.length) : tv p es bal = tvK p es bal k := by
  unfold tv
  rw [show es.length = k + (es.length - k) by omega, tvK_fresh h]
theorem tv_new {p : Int → Bool} {es : List Ent} {bal : List Int} (h : Fresh es 0) : tv p es bal = 0 := by rw [tv_fresh h (Nat.zero_le _)]; rfl
theorem fresh_new (n : Nat) : Fresh (List.replicate n Ent.zero) 0 := fun j _ => entK_rep n j
theorem Fresh.set {es : List Ent} {k : Nat} (h : Fresh es k) (hk : k < es.length) (x : Ent) : Fresh (es.set k x) (k + 1) := fun j hj => by rw [entK_set _ _ _ _ hk, if_neg (by omega)]; exact h j (by omega)
theorem Fresh.mono {es : List Ent} {k j : Nat} (h : Fresh es k) (hj : k ≤ j) : Fresh es j := fun i hi => h i (by omega)
theorem tv_set {p : Int → Bool} {es : List Ent} {bal : List Int} {k : Nat} (h : Fresh es k) (hk : k < es.length) (x : Ent) :
    tv p (es.set k x) bal = tv p es bal + (if x.b = false ∧ x.h = true ∧ p x.r = true then one bal (k : Int) else 0) := by
  have hk' : k < (es.set k x).length := by rw [List.length_set]; exact hk
  rw [tv_fresh (h.set hk x) (by omega), tv_fresh h (by omega)]
  simp only [tvK]
  have hx : entK (es.set k x) k = x := by rw [entK_set _ _ _ _ hk, if_pos rfl]
  obtain ⟨g1, g2⟩ := get_nat (es.set k x) k hk' x hx
  rw [tvK_congr (q := p) (es' := es) k (fun j hj => ?_)]
  · rw [g1, g2]
    congr 1
    cases hb : x.b <;> cases hh : x.h <;> simp_all
  · have hj' : j < (es.set k x).length := by rw [List.length_set]; omega
    have e : entK (es.set k x) j = entK es j := by rw [entK_set _ _ _ _ hk, if_neg (by omega)]
    obtain ⟨a1, a2⟩ := get_nat (es.set k x) j hj' _ e
    obtain ⟨b1, b2⟩ := get_nat es j (by omega) _ rfl
    exact ⟨by rw [a1, b1], fun _ => by rw [a2, b2]⟩
/-- the k-th validator votes -/
theorem take_fresh {es : List Ent} {k : Nat} (h : Fresh es k) (hk : k < es.length) (r : Int) : takeE es (k : Int) 1 r = es.set k ⟨true, 1, r, false⟩ :=
  takeE_nat es k hk 1 r (by rw [take_nat es k hk _ (h k (Nat.le_refl _)) 1]; rfl)
theorem ban_taken {es : List Ent} {k : Nat} (hk : k < es.length) (r : Int) : banE (es.set k ⟨true, 1, r, false⟩) (k : Int) = es.set k ⟨true, 1, r, true⟩ := by
  have hk' : k < (es.set k ⟨true, 1, r, false⟩).length := by rw [List.length_set]; exact hk
  rw [banE_nat _ k hk' ⟨true, 1, r, false⟩ (by rw [entK_set _ _ _ _ hk, if_pos rfl]), List.set_set]
end Go.Proofs.Ytfkabmgbcdoijaa

/- Contracts of vote.Right, vote.Same, and of psephoslaw05's has and rest. -/
import Derived.Test.YtphahkjjmomjcaaVSame

import Derived.Test.YtphahkjjmomjcaaEpRead

import Derived.Test.YtphahkjjmomjcaaCfMake

namespace Go.Proofs.Ytphahkjjmomjcaa

open Go.ChangeShapes Go.WideShapes Go.ChangeAt Go.RowKit

set_option linter.unusedVariables false

/-- do numbers rise above one, below another? -/
def up (n : Int) : Int → List Int → Bool
  | _, [] => true
  | last, x :: xs => decide (last < x ∧ x < n) && up n x xs
theorem up_snoc (n : Int) : ∀ (l : List Int) (last x : Int), up n last (l ++ [x]) = (up n last l && decide (l.getLastD last < x ∧ x < n))
  | [], last, x => by simp [up]
  | y :: l, last, x => by
    have e : (y :: l).getLastD last = l.getLastD y := by cases l <;> rfl
    rw [List.cons_append, up, up, up_snoc n l y x, Bool.and_assoc, e]
/-- who may vote, of so many -/
def whoB (who : List Int) (n : Int) : Bool := up n (-1) who && decide (0 < who.length)
/-- which times a vote may have -/
def timesB (s se te slots : Int) : Bool := decide (0 ≤ s ∧ 0 ≤ se ∧ se ≤ te ∧ te = epo s slots)

theorem up_of_lt (n : Int) : ∀ (l : List Int) (last : Int), l.Pairwise (· < ·) → (∀ x ∈ l, last < x ∧ x < n) → up n last l = true
  | [], _, _, _ => rfl
  | x :: l, last, hp, hx => by
    rw [List.pairwise_cons] at hp
    rw [up, decide_eq_true (hx x (by simp)), Bool.true_and]
    exact up_of_lt n l x hp.2 (fun y hy => ⟨hp.1 y hy, (hx y (by simp [hy])).2⟩)
theorem lt_of_up (n : Int) : ∀ (l : List Int) (last : Int), up n last l = true → l.Pairwise (· < ·) ∧ ∀ x ∈ l, last < x ∧ x < n
  | [], _, _ => ⟨List.Pairwise.nil, by simp⟩
  | x :: l, last, h => by
    rw [up, Bool.and_eq_true, decide_eq_true_eq] at h
    obtain ⟨h1, h2⟩ := lt_of_up n l x h.2
    refine ⟨List.pairwise_cons.2 ⟨fun y hy => (h2 y hy).1, h1⟩, fun y hy => ?_⟩
    rcases List.mem_cons.1 hy with rfl | hy
    · exact h.1
    · have := h2 y hy
      omega
theorem whoB_true (who : List Int) (n : Int) : whoB who n = true ↔ who.Pairwise (· < ·) ∧ (∀ x ∈ who, 0 ≤ x ∧ x < n) ∧ 0 < who.length := by
  unfold whoB
  rw [Bool.and_eq_true, decide_eq_true_eq]
  constructor
  · intro ⟨h1, h2⟩
    obtain ⟨h3, h4⟩ := lt_of_up n who (-1) h1
    exact ⟨h3, fun x hx => by have := h4 x hx; omega, h2⟩
  · intro ⟨h1, h2, h3⟩
    exact ⟨up_of_lt n who (-1) h1 (fun x hx => by have := h2 x hx; omega), h3⟩

set_option maxRecDepth 100000 in
set_option maxHeartbeats 1000000 in
theorem rightWho_any (who : List Int) (a : Option Addr) (l c : Nat) (n : Int) (w : World) (hR : RowIn .i64 w a l c who) :
    Calls Try.prog 72 #[.slice a l c, .int .i64 n] w fun e w' => e = .returned (.bool (whoB who n)) ∧ w' = w := by
  have hl := hR.len
  have hc := hR.cap
  unfold maxLen at hc
  have HR := hide hR
  clear hR
  go_enter Try.func72, Try.ntmps72
  go_wp2
  go_loop [5, 10] (fun x i => ∃ (k : Nat) (last : Int), k ≤ l ∧ i = .int .i64 k ∧ x = .int .i64 last ∧ Hid (up n (-1) who = up n last (who.drop k))) (fun x i => l - (intOf i).toNat)
  case atStart => exact ⟨0, -1, Nat.zero_le _, rfl, rfl, hide rfl⟩
  case round =>
    obtain ⟨k, last, hk, rfl, rfl, hI⟩ := hrel
    by_cases hlt : k < l
    · obtain ⟨b, off, rfl, hbs, hcn⟩ := HR.out.cell k hlt
      have he : up n (-1) who = (decide (last < who.getD k 0 ∧ who.getD k 0 < n) && up n (who.getD k 0) (who.drop (k + 1))) := by
        rw [hI.out, List.drop_eq_getElem_cons (show k < who.length by omega), up, List.getD_eq_getElem?_getD, List.getElem?_eq_getElem (show k < who.length by omega)]
        rfl
      obtain ⟨x, hx⟩ : ∃ x, Hid (who.getD k 0 = x) := ⟨_, rfl⟩
      rw [hx.out] at hcn he
      have HE := hide he
      clear he
      by_cases h1 : x ≤ last
      · go_wp2
        go_ret
        refine ⟨ret_bool ?_, rfl⟩
        rw [whoB, HE.out, decide_eq_false (by omega)]
        rfl
      · by_cases h2 : n ≤ x
        · go_wp2
          go_ret
          refine ⟨ret_bool ?_, rfl⟩
          rw [whoB, HE.out, decide_eq_false (by omega)]
          rfl
        · have HST : Hid (up n (-1) who = up n x (who.drop (k + 1))) := by
            rw [HE.out, decide_eq_true (by omega)]
            exact hide rfl
          go_wp2
          go_round
          case rel => exact ⟨k + 1, x, by omega, by go_num, rfl, HST⟩
          case measure => simp [intOf]; omega
    · have : k = l := by omega
      subst this
      go_wp2
      go_ret
      refine ⟨ret_bool ?_, rfl⟩
      rw [whoB, hI.out, List.drop_of_length_le (by omega), up, hl]
      simp

set_option maxRecDepth 100000 in
set_option maxHeartbeats 1000000 in
theorem rightTimes_any (s h se sr te tr : Int) (a : Option Addr) (l c : Nat) (slots : Int) (w : World) (hs : -9223372036854775808 ≤ s ∧ s ≤ 9223372036854775807) (hS : -9223372036854775808 ≤ slots ∧ slots ≤ 9223372036854775807) :
    Calls Try.prog 73 #[.agg (vcells s h se sr te tr a l c), .int .i64 slots] w fun e w' => e = .returned (.bool (timesB s se te slots)) ∧ Below w.heap.size w w' := by
  by_cases h1 : s < 0
  · go_enter Try.func73, Try.ntmps73
    go_wp2
    go_ret
    exact ⟨ret_bool (by rw [timesB, decide_eq_false (by omega)]), (Below.refl _ _).alloc (Nat.le_refl _) _⟩
  by_cases h2 : se < 0
  · go_enter Try.func73, Try.ntmps73
    go_wp2
    go_ret
    exact ⟨ret_bool (by rw [timesB, decide_eq_false (by omega)]), (Below.refl _ _).alloc (Nat.le_refl _) _⟩
  by_cases h3 : se ≤ te
  · go_enter Try.func73, Try.ntmps73
    go_wp2
    go_region_held3 (fun w' => w'.cell? ⟨w.heap.size, 0, none⟩ = some (.int .i64 s) ∧ w'.cell? ⟨w.heap.size, 2, none⟩ = some (.int .i64 se) ∧ w'.cell? ⟨w.heap.size, 4, none⟩ = some (.int .i64 te)) (go_keep)
      (first
        | (go_at_call 57
           refine (of_any _ _ _ hs hS).mono ?_
           rintro e w' ⟨rfl, hw⟩
           obtain rfl : _ = w' := hw.symm))
    all_goals
      go_wp2
      go_ret
      refine ⟨ret_bool ?_, ?_⟩
      · rw [timesB]
        exact decide_eq_decide.2 ⟨fun h => ⟨by omega, by omega, by omega, h⟩, fun h => h.2.2.2⟩
      · exact ((Below.refl _ _).alloc (Nat.le_refl _) _).drew
  · go_enter Try.func73, Try.ntmps73
    go_wp2
    have h4 : decide (se ≤ te) = false := decide_eq_false (by omega)
    go_quiet (fail)
    all_goals
      go_wp2
      go_ret
      exact ⟨ret_bool (by rw [timesB, decide_eq_false (by omega)]), below_drewN ((Below.refl _ _).alloc (Nat.le_refl _) _) _⟩

set_option maxRecDepth 100000 in
set_option maxHeartbeats 1000000 in
theorem right_any (who : List Int) (ab : Option Addr) (lb cb : Nat) (slots boost : Int) (s h se sr te tr : Int) (a : Option Addr) (l c : Nat) (w : World) (hR : RowIn .i64 w a l c who)
    (hs : -9223372036854775808 ≤ s ∧ s ≤ 9223372036854775807) (hS : -9223372036854775808 ≤ slots ∧ slots ≤ 9223372036854775807) :
    Calls Try.prog 61 #[.agg #[.slice ab lb cb, .int .i64 slots, .int .i64 boost], .agg (vcells s h se sr te tr a l c)] w fun e w' =>
      e = .returned (.bool (whoB who lb && timesB s se te slots)) ∧ Below w.heap.size w w' := by
  have HR := hide ((hR.alloc (cfg ab lb cb slots boost)).alloc (vobj s h se sr te tr a l c))
  clear hR
  go_enter Try.func61, Try.ntmps61
  go_wp2_with fail
  refine (rightWho_any who _ _ _ _ _ HR.out).mono ?_
  rintro e w1 ⟨rfl, hw⟩
  obtain rfl : _ = w1 := hw.symm
  obtain ⟨b, hb⟩ : ∃ b, Hid (whoB who lb = b) := ⟨_, rfl⟩
  rw [hb.out]
  cases b with
  | true =>
    go_wp2_with fail
    refine (rightTimes_any _ _ _ _ _ _ _ _ _ _ _ hs hS).mono ?_
    rintro e w2 ⟨rfl, hbel⟩
    have HN := hide ((((Below.refl _ w).alloc (Nat.le_refl _) (cfg ab lb cb slots boost)).alloc (by simp) (vobj s h se sr te tr a l c)).trans (hbel.mono (by simp; omega)))
    clear hbel
    go_wp2
    go_ret
    exact ⟨ret_bool (by rw [hb.out, Bool.true_and]), HN.out⟩
  | false =>
    go_wp2
    go_ret
    exact ⟨ret_bool (by rw [hb.out, Bool.false_and]), ((Below.refl _ w).alloc (Nat.le_refl _) _).alloc (by simp) _⟩

set_option maxRecDepth 100000 in
set_option maxHeartbeats 1000000 in
theorem has_any (zs : List Int) (a : Option Addr) (l c : Nat) (n : Int) (w : World) (hR : RowIn .i64 w a l c zs) :
    Calls Try.prog 58 #[.slice a l c, .int .i64 n] w fun e w' => e = .returned (.bool (decide (n ∈ zs))) ∧ w' = w := by
  have hl := hR.len
  have hc := hR.cap
  unfold maxLen at hc
  have HR := hide hR
  clear hR
  go_enter Try.func58, Try.ntmps58
  go_wp2
  go_loop [9] (fun i => ∃ (k : Nat), k ≤ l ∧ i = .int .i64 k ∧ Hid (¬ n ∈ zs.take k)) (fun i => l - (intOf i).toNat)
  case atStart => exact ⟨0, Nat.zero_le _, rfl, hide (by simp)⟩
  case round =>
    obtain ⟨k, hk, rfl, hI⟩ := hrel
    by_cases hlt : k < l
    · obtain ⟨b, off, rfl, hbs, hcn⟩ := HR.out.cell k hlt
      have hg : zs.getD k 0 = zs[k] := by rw [List.getD_eq_getElem?_getD, List.getElem?_eq_getElem (show k < zs.length by omega)]; rfl
      have hmem : zs[k] ∈ zs := List.getElem_mem _
      have htk := List.take_succ_eq_append_getElem (show k < zs.length by omega)
      rw [← hg] at hmem htk
      obtain ⟨x, hx⟩ : ∃ x, Hid (zs.getD k 0 = x) := ⟨_, rfl⟩
      rw [hx.out] at hcn hmem htk
      have HM := hide hmem
      have HT := hide htk
      clear hmem htk hg
      by_cases h1 : x = n
      · subst h1
        go_wp2
        go_ret
        exact ⟨ret_bool (decide_eq_true HM.out).symm, rfl⟩
      · have HST : Hid (¬ n ∈ zs.take (k + 1)) := by
          rw [HT.out, List.mem_append, List.mem_singleton]
          refine hide (fun h => ?_)
          rcases h with h | h
          · exact hI.out h
          · exact h1 h.symm
        go_wp2
        go_round
        case rel => exact ⟨k + 1, by omega, by go_num, HST⟩
        case measure => simp [intOf]; omega
    · have : k = l := by omega
      subst this
      go_wp2
      go_ret
      refine ⟨ret_bool ?_, rfl⟩
      have := hI.out
      rw [List.take_of_length_le (by omega)] at this
      rw [decide_eq_false this]

set_option maxRecDepth 100000 in
set_option maxHeartbeats 400000 in
theorem rest5_any (n m : Int) (w : World) (hn : -9223372036854775808 ≤ n ∧ n ≤ 9223372036854775807) (hm : 0 < m ∧ m ≤ 1000000) :
    Calls Try.prog 56 #[.int .i64 n, .int .i64 m] w fun e w' => e = .returned (.int .i64 (n % m)) ∧ w' = w := by
  have h := rest_math n m hm.1
  have h2 := Int.emod_nonneg n (show m ≠ 0 by omega)
  have h3 := Int.emod_lt_of_pos n hm.1
  go_enter Try.func56, Try.ntmps56
  go_wp2
  go_ret
  refine ⟨ret_int ?_, rfl⟩
  have h4 : -m < n.tmod m ∧ n.tmod m < m := ⟨by have := Int.lt_tmod_of_pos n hm.1; omega, Int.tmod_lt_of_pos n hm.1⟩
  rw [show wrap64 (n.tmod m + m) = n.tmod m + m from by unfold wrap64; omega, h]
end Go.Proofs.Ytphahkjjmomjcaa

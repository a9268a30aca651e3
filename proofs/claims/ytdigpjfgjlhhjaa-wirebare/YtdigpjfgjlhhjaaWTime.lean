/- Contracts of wire's mayTime, mayVote and mayProof: has a vote bytes? -/
import Derived.Test.YtdigpjfgjlhhjaaWMay

import Derived.Test.YtdigpjfgjlhhjaaMid

namespace Go.Proofs.Ytdigpjfgjlhhjaa

open Go.ChangeShapes Go.WideShapes Go.ChangeAt Go.RowKit

set_option linter.unusedVariables false

theorem time_any (n : Int) (w : World) : Calls Try.prog 21 #[.int .i64 n] w fun r w' => r = .returned (.bool (inSlot n)) ∧ w' = w := by
  by_cases h1 : 0 ≤ n
  · by_cases h2 : n ≤ 1099511627776
    · go_enter Try.func21, Try.ntmps21
      go_wp2
      go_ret
      exact ⟨ret_bool (decide_eq_true (by omega)).symm, rfl⟩
    · go_enter Try.func21, Try.ntmps21
      go_wp2
      go_ret
      exact ⟨ret_bool (decide_eq_false (by omega)).symm, rfl⟩
  · go_enter Try.func21, Try.ntmps21
    go_wp2
    go_ret
    exact ⟨ret_bool (decide_eq_false (by omega)).symm, rfl⟩

set_option maxHeartbeats 1000000 in
theorem mayVote_any (v : Vt) (cs : List Value) (w : World) (h : VoteC w cs v) :
    Calls Try.prog 23 #[.agg cs.toArray] w fun e w' => e = .returned (.bool (fitsB v)) ∧ Below w.heap.size w w' := by
  obtain ⟨hw, ao, l, c, rfl, hr⟩ := h
  have hlen := hr.len
  have hcap := hr.cap
  have HR := hide (hr.below (below_alloc w (votC v ao l c)))
  unfold maxLen at hcap
  clear hw hr
  obtain ⟨q1, hq1⟩ : ∃ q, Hid (inSlot v.slot = q) := ⟨_, rfl⟩
  obtain ⟨q2, hq2⟩ : ∃ q, Hid (inSlot v.sE = q) := ⟨_, rfl⟩
  obtain ⟨q3, hq3⟩ : ∃ q, Hid (inSlot v.tE = q) := ⟨_, rfl⟩
  have f0 : Hid (fits0 v = (q1 && q2 && q3 && decide (v.who.length ≤ 4096))) := by
    refine show _ = _ from ?_
    rw [← hq1.out, ← hq2.out, ← hq3.out]
    unfold fits0 inSlot
    rw [Bool.eq_iff_iff]
    simp only [Bool.and_eq_true, decide_eq_true_eq]
    omega
  cases q1
  · have hf : Hid (fitsB v = false) := show _ = _ by rw [fitsB, f0.out]; simp
    go_enter Try.func23, Try.ntmps23
    go_wp2_with (go_at_call 21; refine (time_any _ _).mono ?_; rintro r w1 ⟨rfl, hw⟩; obtain rfl : _ = w1 := hw.symm; (first | rw [hq1.out] | rw [hq2.out] | rw [hq3.out]))
    go_ret
    exact ⟨ret_bool hf.out.symm, below_alloc _ _⟩
  cases q2
  · have hf : Hid (fitsB v = false) := show _ = _ by rw [fitsB, f0.out]; simp
    go_enter Try.func23, Try.ntmps23
    go_wp2_with (go_at_call 21; refine (time_any _ _).mono ?_; rintro r w1 ⟨rfl, hw⟩; obtain rfl : _ = w1 := hw.symm; (first | rw [hq1.out] | rw [hq2.out] | rw [hq3.out]))
    go_ret
    exact ⟨ret_bool hf.out.symm, below_alloc _ _⟩
  cases q3
  · have hf : Hid (fitsB v = false) := show _ = _ by rw [fitsB, f0.out]; simp
    go_enter Try.func23, Try.ntmps23
    go_wp2_with (go_at_call 21; refine (time_any _ _).mono ?_; rintro r w1 ⟨rfl, hw⟩; obtain rfl : _ = w1 := hw.symm; (first | rw [hq1.out] | rw [hq2.out] | rw [hq3.out]))
    go_ret
    exact ⟨ret_bool hf.out.symm, below_alloc _ _⟩
  by_cases h7 : (l : Int) ≤ 4096
  case neg =>
    have hf : Hid (fitsB v = false) := show _ = _ by rw [fitsB, f0.out, decide_eq_false (by omega)]; simp
    go_enter Try.func23, Try.ntmps23
    go_wp2_with (go_at_call 21; refine (time_any _ _).mono ?_; rintro r w1 ⟨rfl, hw⟩; obtain rfl : _ = w1 := hw.symm; (first | rw [hq1.out] | rw [hq2.out] | rw [hq3.out]))
    go_ret
    exact ⟨ret_bool hf.out.symm, below_alloc _ _⟩
  have hf : Hid (fitsB v = v.who.all inWho) := show _ = _ by rw [fitsB, f0.out, decide_eq_true (by omega)]; simp
  go_enter Try.func23, Try.ntmps23
  go_wp2_with (go_at_call 21; refine (time_any _ _).mono ?_; rintro r w1 ⟨rfl, hw⟩; obtain rfl : _ = w1 := hw.symm; (first | rw [hq1.out] | rw [hq2.out] | rw [hq3.out]))
  go_loop [32] (fun i => ∃ k : Nat, k ≤ l ∧ i = .int .i64 k ∧ Hid ((v.who.take k).all inWho = true)) (fun i => l - (intOf i).toNat)
  case atStart => exact ⟨0, Nat.zero_le _, rfl, rfl⟩
  case round =>
    obtain ⟨k, hk, rfl, ht⟩ := hrel
    by_cases hlt : k < l
    · obtain ⟨b, off, rfl, hbs, hcn⟩ := HR.out.cell k hlt
      have ha := all_take v.who inWho k (by omega)
      obtain ⟨x, hx⟩ : ∃ x, Hid (v.who.getD k 0 = x) := ⟨_, rfl⟩
      rw [hx.out] at hcn ha
      rw [ht.out, Bool.true_and] at ha
      have hno : Hid (inWho x = false → fitsB v = false) := fun h => by
        rw [hf.out, List.all_eq_false]
        refine ⟨x, ?_, by simp [h]⟩
        rw [← hx.out, List.getD_eq_getElem?_getD, List.getElem?_eq_getElem (by omega)]
        exact List.getElem_mem _
      have HA := hide ha
      clear ha
      by_cases g1 : 0 ≤ x
      · by_cases g2 : x < 4096
        · go_wp2
          go_round
          case rel => exact ⟨k + 1, by omega, by go_num, show _ = _ by rw [HA.out]; exact decide_eq_true (by omega)⟩
          case measure => simp [intOf]; omega
        · go_wp2
          go_ret
          exact ⟨ret_bool (hno.out (decide_eq_false (by omega))).symm, below_alloc _ _⟩
      · go_wp2
        go_ret
        exact ⟨ret_bool (hno.out (decide_eq_false (by omega))).symm, below_alloc _ _⟩
    · have : k = l := by omega
      subst this
      have ht2 := ht.out
      rw [List.take_of_length_le (by omega)] at ht2
      have HT2 := hide ht2
      clear ht2
      go_wp2
      go_ret
      exact ⟨ret_bool (by rw [hf.out, HT2.out]), below_alloc _ _⟩

set_option maxHeartbeats 1000000 in
theorem mayProof_any (p : Pf) (cs : List Value) (w : World) (h : ProofC w cs p) :
    Calls Try.prog 24 #[.agg cs.toArray] w fun e w' => e = .returned (.bool (pfB p)) ∧ Below w.heap.size w w' := by
  obtain ⟨x, y, rfl, h1, h2⟩ := h
  obtain ⟨a4, l4, c4, rfl, HA⟩ := h1.out
  obtain ⟨a5, l5, c5, rfl, HB⟩ := h2.out
  have H := hide HA
  have K := hide HB
  clear HA HB h1 h2
  go_enter Try.func24, Try.ntmps24
  go_wp2_with fail
  refine (mayVote_any p.a _ _ (H.out.below (below_alloc _ _))).mono ?_
  rintro r w1 ⟨rfl, hb1⟩
  obtain ⟨q, hq⟩ : ∃ q, Hid (fitsB p.a = q) := ⟨_, rfl⟩
  rw [hq.out]
  have hcell := fun i => hb1.cell (p := ⟨w.heap.size, i, none⟩) (by simp)
  have d1 := hcell 7
  have d2 := hcell 8
  have d3 := hcell 9
  have d4 := hcell 10
  have d5 := hcell 11
  have d6 := hcell 12
  have d7 := hcell 13
  simp [go_sem] at d1 d2 d3 d4 d5 d6 d7
  have HB1 := hide ((below_alloc w _).trans (hb1.mono (by simp)))
  clear hcell hb1
  cases q
  · go_wp2
    go_ret
    exact ⟨ret_bool (by rw [pfB, hq.out]; rfl), HB1.out⟩
  · go_wp2_with fail
    refine (mayVote_any p.b _ _ (K.out.below HB1.out)).mono ?_
    rintro r w2 ⟨rfl, hb2⟩
    go_wp2
    go_ret
    exact ⟨ret_bool (by rw [pfB, hq.out]; rfl), HB1.out.trans (hb2.mono HB1.out.size)⟩
end Go.Proofs.Ytdigpjfgjlhhjaa

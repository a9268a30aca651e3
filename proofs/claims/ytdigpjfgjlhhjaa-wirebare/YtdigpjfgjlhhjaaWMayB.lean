/- Contracts of wire's mayBlock and May: has an event bytes? -/
import Derived.Test.YtdigpjfgjlhhjaaWTime

namespace Go.Proofs.Ytdigpjfgjlhhjaa

open Go.ChangeShapes Go.WideShapes Go.ChangeAt Go.RowKit

set_option linter.unusedVariables false

abbrev bkC (bk : Bk) (a1 : Option Addr) (l1 c1 : Nat) (a2 : Option Addr) (l2 c2 : Nat) : Obj := .cells #[.int .u64 bk.root, .int .u64 bk.parent, .int .i64 bk.slot, .slice a1 l1 c1, .slice a2 l2 c2] 29

theorem all_no {α : Type} (l : List α) (p : α → Bool) (k : Nat) (h : k < l.length) (hf : p l[k] = false) : l.all p = false := by
  rw [List.all_eq_false]
  exact ⟨l[k], List.getElem_mem _, by simp [hf]⟩
theorem bk0_eq (bk : Bk) : bk0 bk = (inSlot bk.slot && decide (bk.votes.length ≤ 16) && decide (bk.proofs.length ≤ 16)) := by
  unfold bk0 inSlot
  rw [Bool.eq_iff_iff]
  simp only [Bool.and_eq_true, decide_eq_true_eq]
  omega

set_option maxHeartbeats 2000000 in
theorem mayBlock_any (bk : Bk) (cs : List Value) (w : World) (h : BlockC w cs bk) :
    Calls Try.prog 22 #[.agg cs.toArray] w fun r w' => r = .returned (.bool (bkB bk)) ∧ Below w.heap.size w w' := by
  obtain ⟨hw, a1, l1, c1, a2, l2, c2, rfl, HV, HP⟩ := h
  have hn1 := HV.len
  have hn2 := HP.len
  have hn1c := HV.cap
  have hn2c := HP.cap
  unfold maxLen at hn1c hn2c
  obtain ⟨W0, hW0⟩ : ∃ W, Hid (w.alloc (bkC bk a1 l1 c1 a2 l2 c2) = W) := ⟨_, rfl⟩
  have hb0 : Below w.heap.size w W0 := by rw [← hW0.out]; exact below_alloc _ _
  have H0 := hide (HV.mono hb0 fun cs v h => h.below hb0)
  have K0 := hide (HP.mono hb0 fun cs v h => h.below hb0)
  have HB0 := hide hb0
  clear HV HP hw hb0
  have hbk := hide (bk0_eq bk)
  obtain ⟨q1, hq1⟩ : ∃ q, Hid (inSlot bk.slot = q) := ⟨_, rfl⟩
  rw [hq1.out] at hbk
  cases q1
  · have hf : Hid (bkB bk = false) := show _ = _ by rw [bkB, hbk.out]; simp
    go_enter Try.func22, Try.ntmps22
    go_wp2_with (go_at_call 21; refine (time_any _ _).mono ?_; rintro r w1 ⟨rfl, hw⟩; obtain rfl : _ = w1 := hw.symm; rw [hq1.out])
    go_ret
    exact ⟨ret_bool hf.out.symm, below_alloc _ _⟩
  by_cases h1 : (l1 : Int) ≤ 16
  case neg =>
    have hf : Hid (bkB bk = false) := show _ = _ by rw [bkB, hbk.out, decide_eq_false (p := bk.votes.length ≤ 16) (by omega)]; simp
    go_enter Try.func22, Try.ntmps22
    go_wp2_with (go_at_call 21; refine (time_any _ _).mono ?_; rintro r w1 ⟨rfl, hw⟩; obtain rfl : _ = w1 := hw.symm; rw [hq1.out])
    go_ret
    exact ⟨ret_bool hf.out.symm, below_alloc _ _⟩
  by_cases h2 : (l2 : Int) ≤ 16
  case neg =>
    have hf : Hid (bkB bk = false) := show _ = _ by rw [bkB, hbk.out, decide_eq_false (p := bk.proofs.length ≤ 16) (by omega)]; simp
    go_enter Try.func22, Try.ntmps22
    go_wp2_with (go_at_call 21; refine (time_any _ _).mono ?_; rintro r w1 ⟨rfl, hw⟩; obtain rfl : _ = w1 := hw.symm; rw [hq1.out])
    go_ret
    exact ⟨ret_bool hf.out.symm, below_alloc _ _⟩
  have hf : Hid (bkB bk = (bk.votes.all fitsB && bk.proofs.all pfB)) := show _ = _ by rw [bkB, hbk.out, decide_eq_true (p := bk.proofs.length ≤ 16) (by omega), decide_eq_true (p := bk.votes.length ≤ 16) (by omega)]; simp
  go_enter Try.func22, Try.ntmps22
  go_wp2_with (go_at_call 21; refine (time_any _ _).mono ?_; rintro r w1 ⟨rfl, hw⟩; obtain rfl : _ = w1 := hw.symm; rw [hq1.out])
  have hs0 : w.heap.size < W0.heap.size := by rw [← hW0.out]; simp
  have e6 : W0.cell? ⟨w.heap.size, 4, none⟩ = some (.slice a2 l2 c2) := by rw [← hW0.out]; simp [go_sem]
  rw [hW0.out]
  go_loopw [26] (fun i wr => ∃ k : Nat, k ≤ l1 ∧ i = .int .i64 k ∧ Hid ((bk.votes.take k).all fitsB = true ∧ Below W0.heap.size W0 wr)) (fun i _ => l1 - (intOf i).toNat)
  case atStart => exact ⟨0, Nat.zero_le _, rfl, hide ⟨rfl, Below.refl _ _⟩⟩
  case round =>
    obtain ⟨k, hk, rfl, hI⟩ := hrel
    by_cases hlt : k < l1
    · obtain ⟨b, off, av, lv, cv, rfl, hbs, hvc, x0, x1, x2, x3, x4, x5, x6⟩ := vote_at H0.out hI.out.2 k (by omega)
      have ha := all_snoc bk.votes fitsB k (by omega)
      have hno := all_no bk.votes fitsB k (by omega)
      obtain ⟨v, hgv⟩ : ∃ v, Hid (bk.votes[k] = v) := ⟨_, hide rfl⟩
      rw [hgv.out] at x0 x1 x2 x3 x4 x5 ha hvc hno
      rw [hI.out.1, Bool.true_and] at ha
      have HVC := hide hvc
      have HA := hide ha
      have HN := hide hno
      clear ha hvc hno
      go_wp2_with fail
      refine (mayVote_any v _ _ (HVC.out.below (below_alloc _ _))).mono ?_
      rintro r w1 ⟨rfl, hb1⟩
      have HI := hide ((hI.out.2.alloc hI.out.2.size (.cells (vtCs v av lv cv).toArray 34)).trans (hb1.mono (by have := hI.out.2.size; simp; omega)))
      clear hb1
      obtain ⟨q, hq⟩ : ∃ q, Hid (fitsB v = q) := ⟨_, rfl⟩
      rw [hq.out]
      rw [hq.out] at HA HN
      cases q
      · go_wp2
        go_ret
        exact ⟨ret_bool (by rw [hf.out, HN.out (by trivial)]; rfl), HB0.out.trans (HI.out.mono HB0.out.size)⟩
      · go_wp2
        go_roundw
        case rel => exact ⟨k + 1, by omega, by go_num, hide ⟨HA.out, HI.out⟩⟩
        case measure => simp [intOf]; omega
    · have : k = l1 := by omega
      subst this
      have hv := hI.out.1
      rw [List.take_of_length_le (by omega)] at hv
      rw [hv, Bool.true_and] at hf
      have e6 := (hI.out.2.cell (p := ⟨w.heap.size, 4, none⟩) hs0).trans e6
      have HI0 := hide hI.out.2
      clear hv hI
      go_wp2
      go_loopw [37] (fun i wr => ∃ k : Nat, k ≤ l2 ∧ i = .int .i64 k ∧ Hid ((bk.proofs.take k).all pfB = true ∧ Below W0.heap.size W0 wr)) (fun i _ => l2 - (intOf i).toNat)
      case atStart => exact ⟨0, Nat.zero_le _, rfl, hide ⟨rfl, HI0.out⟩⟩
      case round =>
        clear HI0 e6
        obtain ⟨j, hj, rfl, hI⟩ := hrel
        by_cases hlt : j < l2
        · obtain ⟨b, off, av, lv, cv, aw, lw, cw, rfl, hbs, hva, hvb, x0, x1, x2, x3, x4, x5, x6, y0, y1, y2, y3, y4, y5, y6⟩ := proof_at K0.out hI.out.2 j (by omega)
          have ha := all_snoc bk.proofs pfB j (by omega)
          have hno := all_no bk.proofs pfB j (by omega)
          obtain ⟨p, hgp⟩ : ∃ v, Hid (bk.proofs[j] = v) := ⟨_, hide rfl⟩
          rw [hgp.out] at x0 x1 x2 x3 x4 x5 y0 y1 y2 y3 y4 y5 ha hva hvb hno
          rw [hI.out.1, Bool.true_and] at ha
          have HVP : Hid (ProofC wr (vtCs p.a av lv cv ++ vtCs p.b aw lw cw) p) := ⟨_, _, rfl, hva, hvb⟩
          have HA := hide ha
          have HN := hide hno
          clear ha hva hvb hno
          go_wp2_with fail
          refine (mayProof_any p _ _ (HVP.out.below (below_alloc _ _))).mono ?_
          rintro r w1 ⟨rfl, hb1⟩
          have HI := hide ((hI.out.2.alloc hI.out.2.size _).trans (hb1.mono (by have := hI.out.2.size; simp; omega)))
          clear hb1
          obtain ⟨q, hq⟩ : ∃ q, Hid (pfB p = q) := ⟨_, rfl⟩
          rw [hq.out]
          rw [hq.out] at HA HN
          cases q
          · go_wp2
            go_ret
            exact ⟨ret_bool (by rw [hf.out, HN.out (by trivial)]), HB0.out.trans (HI.out.mono HB0.out.size)⟩
          · go_wp2
            go_roundw
            case rel => exact ⟨j + 1, by omega, by go_num, hide ⟨HA.out, HI.out⟩⟩
            case measure => simp [intOf]; omega
        · have : j = l2 := by omega
          subst this
          have hv := hI.out.1
          rw [List.take_of_length_le (by omega)] at hv
          rw [hv] at hf
          clear hv
          go_wp2
          go_ret
          exact ⟨ret_bool hf.out.symm, HB0.out.trans (hI.out.2.mono HB0.out.size)⟩

set_option maxHeartbeats 1000000 in
theorem may_any (e : Ev) (cs : List Value) (w : World) (h : EventC w cs e) :
    Calls Try.prog 13 #[.agg cs.toArray] w fun r w' => r = .returned (.bool (evB e)) ∧ Below w.heap.size w w' := by
  obtain ⟨a1, l1, c1, a2, l2, c2, a3, l3, c3, a4, l4, c4, a5, l5, c5, hE⟩ := h.out
  obtain ⟨hc, hk, hs, hb, hV, hP, hv, ha, hb'⟩ := hE
  obtain ⟨kd, es, bk, vt, pf⟩ := e
  subst hc
  have HVT := hide hv
  have HPF : Hid (ProofC w (vtCs pf.a a4 l4 c4 ++ vtCs pf.b a5 l5 c5) pf) := ⟨_, _, rfl, ha, hb'⟩
  have HBK : Hid (BlockC w [.int .u64 bk.root, .int .u64 bk.parent, .int .i64 bk.slot, .slice a1 l1 c1, .slice a2 l2 c2] bk) := ⟨hb, a1, l1, c1, a2, l2, c2, rfl, hV, hP⟩
  clear h hk hs hb hV hP hv ha hb'
  dsimp only at *
  by_cases k0 : kd = 0
  · subst k0
    go_enter Try.func13, Try.ntmps13
    go_wp2_with (go_at_call 21; refine (time_any _ _).mono ?_; rintro r w1 ⟨rfl, hw⟩; obtain rfl : _ = w1 := hw.symm)
    go_ret
    exact ⟨rfl, below_alloc _ _⟩
  by_cases k2 : kd = 2
  · subst k2
    go_enter Try.func13, Try.ntmps13
    go_wp2_with (go_at_call 23; refine (mayVote_any vt _ _ (HVT.out.below (below_alloc _ _))).mono ?_; rintro r w1 ⟨rfl, hb1⟩)
    go_ret
    exact ⟨rfl, (below_alloc w _).trans (hb1.mono (by simp))⟩
  by_cases k3 : kd = 3
  · subst k3
    go_enter Try.func13, Try.ntmps13
    go_wp2_with (go_at_call 24; refine (mayProof_any pf _ _ (HPF.out.below (below_alloc _ _))).mono ?_; rintro r w1 ⟨rfl, hb1⟩)
    go_ret
    exact ⟨rfl, (below_alloc w _).trans (hb1.mono (by simp))⟩
  by_cases k1 : kd = 1
  · subst k1
    go_enter Try.func13, Try.ntmps13
    go_wp2_with (go_at_call 22; refine (mayBlock_any bk _ _ (HBK.out.below (below_alloc _ _))).mono ?_; rintro r w1 ⟨rfl, hb1⟩)
    go_ret
    exact ⟨rfl, (below_alloc w _).trans (hb1.mono (by simp))⟩
  have hf : Hid (evB ⟨kd, es, bk, vt, pf⟩ = false) := show _ = _ by simp [evB, k0, k1, k2, k3]
  go_enter Try.func13, Try.ntmps13
  go_wp2
  go_ret
  exact ⟨ret_bool hf.out.symm, below_alloc _ _⟩
end Go.Proofs.Ytdigpjfgjlhhjaa

/-
  two parts of all that are enough share a third of it (QuorumThird is true of every input).
-/
import Derived.Test.YtikehicojmcmiaaRows

import Derived.WalkKit

import Derived.Below

import Derived.ProofKit

import Derived.OpenShut

import Derived.ShutString

import Derived.Test.YtikehicojmcmiaaQRead

namespace Go.Proofs.Ytikehicojmcmiaa.quorumThird

open Go.ChangeShapes Go.WideShapes Go.ChangeAt Go.RowKit

open Go.ChangeMaps (open_string shut_string)

set_option linter.unusedVariables false      -- a walk need not use every 'w<i>' (that an integer argument fits its kind)

theorem own : ownKnob Try.prog.godebug = none := by kernel_rfl

theorem enough_zero (s : Int) (w : World) : Calls Try.prog 11 #[.int .u64 s, .int .u64 0] w fun e w' => e = .returned (.bool false) ∧ w' = w := by
  go_enter Try.func11, Try.ntmps11
  go_wp2
  go_ret
  exact ⟨rfl, rfl⟩
set_option maxHeartbeats 1000000 in
theorem walk (a0 : Int) (a1 : Int) (a2 : Int) (w0 : (Lit.int .u64 a0).wf = true) (w1 : (Lit.int .u64 a1).wf = true) (w2 : (Lit.int .u64 a2).wf = true) (w : World) :
    Calls Try.prog 5 #[.int .u64 a0, .int .u64 a1, .int .u64 a2] w fun e w' => e = .returned (.bool true) ∧ Below w.heap.size w w' := by
  have hA := wf_u64 w0
  have hB := wf_u64 w1
  have hC := wf_u64 w2
  clear w0 w1 w2
  rcases (by omega : a2 = 0 ∨ 0 < a2) with h | h
  · subst h
    go_enter Try.func5, Try.ntmps5
    go_wp2_with (first
      | (go_at_call 10; refine (awake_any _).mono ?_; rintro e w' ⟨rfl, hw⟩; obtain rfl : _ = w' := hw.symm)
      | (go_at_call 11; refine (enough_zero _ _).mono ?_; rintro e w' ⟨rfl, hw⟩; obtain rfl : _ = w' := hw.symm))
    go_ret
    exact ⟨rfl, Below.refl _ _⟩
  · have q1 := Int.emod_nonneg a0 (show a2 ≠ 0 by omega)
    have q2 := Int.emod_lt_of_pos a0 h
    have q3 := Int.emod_nonneg a1 (show a2 ≠ 0 by omega)
    have q4 := Int.emod_lt_of_pos a1 h
    have hz : ¬ a2 = 0 := by omega
    go_enter Try.func5, Try.ntmps5
    go_wp2_with (go_at_call 10; refine (awake_any _).mono ?_; rintro e w' ⟨rfl, hw⟩; obtain rfl : _ = w' := hw.symm)
    go_quiet (fail)
    generalize a0 % a2 = p at q1 q2 ⊢
    generalize a1 % a2 = q at q3 q4 ⊢
    have H1 := hide (enough_any (a2 - p) a2 (w.drewN nq) (by omega) hC)
    have H2 := hide (enough_any (a2 - q) a2 (w.drewN nq) (by omega) hC)
    have H3 := hide (meet_any (a2 - p) (a2 - q) a2 (w.drewN nq) (by omega) (by omega) hC)
    have H4 := hide (third_any (mtI (a2 - p) (a2 - q) a2) a2 (w.drewN nq) (mtI_b (by omega) (by omega) hC) hC)
    have H5 := hide (enough_zero (a2 - p) (w.drewN nq))
    have key : enB (a2 - p) a2 = false ∨ (enB (a2 - p) a2 = true ∧ enB (a2 - q) a2 = false) ∨ (enB (a2 - p) a2 = true ∧ enB (a2 - q) a2 = true ∧ thB (mtI (a2 - p) (a2 - q) a2) a2 = true) := by
      have e : 2 * a2 ≤ 3 * (a2 - p) → 2 * a2 ≤ 3 * (a2 - q) → a2 ≤ 3 * mtI (a2 - p) (a2 - q) a2 := by
        intro h1 h2
        unfold mtI; split <;> omega
      simp only [enB, thB, decide_eq_true_eq, decide_eq_false_iff_not]; omega
    rcases key with h1 | ⟨h1, h2⟩ | ⟨h1, h2, h3⟩
    all_goals
      rw [h1] at H1
      try rw [h2] at H2
      try rw [h3] at H4
      go_wp2_with (first
        | (go_at_call 11; first | with_reducible refine Calls.mono H5.out ?_ | with_reducible refine Calls.mono H1.out ?_ | with_reducible refine Calls.mono H2.out ?_
           rintro e w' ⟨rfl, hw⟩; obtain rfl : _ = w' := hw.symm)
        | (go_at_call 14; refine Calls.mono H3.out ?_
           rintro e w' ⟨rfl, hw⟩; obtain rfl : _ = w' := hw.symm)
        | (go_at_call 13; refine Calls.mono H4.out ?_
           rintro e w' ⟨rfl, hw⟩; obtain rfl : _ = w' := hw.symm))
      go_ret
      exact ⟨rfl, below_drewN (Below.refl _ _) _⟩
  -- go_enter Try.func5, Try.ntmps5
  -- go_wp2
  -- go_ret
  -- exact ⟨rfl, by repeat (first | exact Grown.refl _ | apply Grown.drew | apply Grown.alloc)⟩

set_option maxRecDepth 100000 in
theorem lifted (os : Os) (started : os.Started) (H : Type) (enc : TypeId × Value → H) :
    ReturnsInHanded {} Try.checked os 5 .any (Rows.quorumThirdSpec.pre6 enc Try.prog Try.f5 Rows.quorumThirdRow.domain false) (Rows.quorumThirdSpec.post enc Try.prog Try.f5 false true false false) := by
  refine returnsInHanded_of_change (C := Try.checked) own started (by kernel_rfl) Try.func5
    (ChangeSpec.witness6 (enc := enc) (C := Try.checked) false ⟨#[], #[.int .u64 0, .int .u64 0, .int .u64 0], []⟩ 8 (by kernel_rfl) (by kernel_rfl) (by kernel_rfl) (by kernel_rfl)) ?_
  intro W base args ds gs before hval0 hW hcnd _
  have hval : ∀ (j : Nat) t v, Try.f5.params[j]? = some t → args[j]? = some v → Value.okWide Try.prog W .any base t v := hval0
  have hW' := hW
  obtain ⟨p, q, hA0, hV, rfl, hfz, hnd⟩ := hW
  have hA : DataW.TrodAll enc Try.prog W 0 (fun _ => true) true Try.f5.params.toList args.toList ds p := hA0
  rw [Try.params5] at hA hval
  obtain ⟨v0, vs0, d0, ds0, p0, q0, hargs, rfl, rfl, h0, r0⟩ := trodAll_cons hA
  obtain ⟨v1, vs1, d1, ds1, p1, q1, rfl, rfl, rfl, h1, r1⟩ := trodAll_cons r0
  obtain ⟨v2, vs2, d2, ds2, p2, q2, rfl, rfl, rfl, h2, r2⟩ := trodAll_cons r1
  obtain ⟨rfl, rfl, rfl⟩ := trodAll_nil r2
  obtain rfl : args = #[v0, v1, v2] := by cases args; simp_all
  obtain ⟨rfl, rfl⟩ := trodVars_none hV
  obtain ⟨a0, rfl, rfl, rfl, w0⟩ := open_int Try.underlying22 (hval 0 22 v0 rfl rfl) h0
  obtain ⟨a1, rfl, rfl, rfl, w1⟩ := open_int Try.underlying22 (hval 1 22 v1 rfl rfl) h1
  obtain ⟨a2, rfl, rfl, rfl, w2⟩ := open_int Try.underlying22 (hval 2 22 v2 rfl rfl) h2
  clear hA0 hval0
  refine (walk a0 a1 a2 w0 w1 w2 W).mono fun e W' ⟨he, hg⟩ => ?_
  subst he
  exact ⟨_, rfl, _, _, _, [], _, [], hW', (trodAll_cons_mk (shut_bool Try.underlying4 _) trodAll_mk0), (trodAll_cons_mk (shut_int Try.underlying22 w0) (trodAll_cons_mk (shut_int Try.underlying22 w1) (trodAll_cons_mk (shut_int Try.underlying22 w2) trodAll_mk0))), rfl, hg.frame _, fun h => by cases h⟩

theorem over : Rows.quorumThirdRow.holds Try.pinned (OpenSpec.ofChange Rows.quorumThirdSpec) :=
  OpenClaim.holds_of_wide 5 Try.f5 rfl rfl rfl rfl rfl rfl rfl ⟨rfl, rfl, rfl, rfl, rfl⟩ rfl rfl rfl rfl rfl (by kernel_rfl) Try.func5 (by kernel_rfl)
    (of_decide_eq_true (by kernel_rfl)) (by unfold Func.isWrapper; first | (rw [if_pos (by decide +kernel)]; kernel_rfl) | (rw [if_neg (by decide +kernel)]; exact ⟨rfl, rfl⟩))
    (fun os started H enc _ => lifted os started H enc)

theorem proved : Rows.QuorumThirdSaid :=
  over
end Go.Proofs.Ytikehicojmcmiaa.quorumThird

/-
  enough are two thirds of all at least, and a third is a third at least, of whole numbers without a limit (QuorumEnough is true of every input).
-/
import Derived.Test.YtikehicojmcmiaaRows

import Derived.WalkKit

import Derived.Below

import Derived.ProofKit

import Derived.OpenShut

import Derived.ShutString

import Derived.Test.YtikehicojmcmiaaQTimes

namespace Go.Proofs.Ytikehicojmcmiaa.quorumEnough

open Go.ChangeShapes Go.WideShapes Go.ChangeAt Go.RowKit

open Go.ChangeMaps (open_string shut_string)

set_option linter.unusedVariables false      -- a walk need not use every 'w<i>' (that an integer argument fits its kind)

theorem own : ownKnob Try.prog.godebug = none := by kernel_rfl

set_option maxHeartbeats 1000000 in
theorem walk (a0 : Int) (a1 : Int) (w0 : (Lit.int .u64 a0).wf = true) (w1 : (Lit.int .u64 a1).wf = true) (w : World) :
    Calls Try.prog 3 #[.int .u64 a0, .int .u64 a1] w fun e w' => e = .returned (.bool true) ∧ Below w.heap.size w w' := by
  have hS := wf_u64 w0
  have hA := wf_u64 w1
  clear w0 w1
  have k1 : enB a0 a1 = (decide (0 < a1) && alB a0 3 a1 2) := by
    unfold enB alB; rw [← Bool.decide_and]; exact decide_eq_decide.mpr (by omega)
  have k2 : thB a0 a1 = (decide (0 < a1) && alB a0 3 a1 1) := by
    unfold thB alB; rw [← Bool.decide_and]; exact decide_eq_decide.mpr (by omega)
  rcases (by omega : a1 = 0 ∨ 0 < a1) with h | h
  · have q1 : enB a0 a1 = false := by rw [k1, decide_eq_false (by omega)]; rfl
    have q2 : thB a0 a1 = false := by rw [k2, decide_eq_false (by omega)]; rfl
    clear k1 k2
    have H1 := hide (enough_any a0 a1 w hS hA)
    have H2 := hide (third_any a0 a1 w hS hA)
    rw [q1] at H1
    rw [q2] at H2
    clear q1 q2
    subst h
    go_enter Try.func3, Try.ntmps3
    go_wp2_with (first
      | (go_at_call 10; refine (awake_any _).mono ?_; rintro e w' ⟨rfl, hw⟩; obtain rfl : _ = w' := hw.symm)
      | (go_at_call 11; refine Calls.mono H1.out ?_; rintro e w' ⟨rfl, hw⟩; obtain rfl : _ = w' := hw.symm)
      | (go_at_call 13; refine Calls.mono H2.out ?_; rintro e w' ⟨rfl, hw⟩; obtain rfl : _ = w' := hw.symm))
    go_ret
    exact ⟨rfl, Below.refl _ _⟩
  · rw [decide_eq_true h, Bool.true_and] at k1 k2
    have H1 := hide (enough_any a0 a1 w hS hA)
    have H2 := hide (third_any a0 a1 w hS hA)
    have H3 := hide (atLeast_any a0 3 a1 2 w hS (by omega) hA (by omega))
    have H4 := hide (atLeast_any a0 3 a1 1 w hS (by omega) hA (by omega))
    rw [k1] at H1
    rw [k2] at H2
    clear k1 k2
    generalize alB a0 3 a1 2 = x at H1 H3
    generalize alB a0 3 a1 1 = y at H2 H4
    cases x <;> cases y
    all_goals
      go_enter Try.func3, Try.ntmps3
      go_wp2_with (first
        | (go_at_call 10; refine (awake_any _).mono ?_; rintro e w' ⟨rfl, hw⟩; obtain rfl : _ = w' := hw.symm)
        | (go_at_call 11; refine Calls.mono H1.out ?_; rintro e w' ⟨rfl, hw⟩; obtain rfl : _ = w' := hw.symm)
        | (go_at_call 13; refine Calls.mono H2.out ?_; rintro e w' ⟨rfl, hw⟩; obtain rfl : _ = w' := hw.symm))
      refine Calls.mono H3.out ?_; rintro e w' ⟨rfl, hw⟩; obtain rfl : _ = w' := hw.symm
      go_wp2_with (first
        | (go_at_call 11; refine Calls.mono H1.out ?_; rintro e w' ⟨rfl, hw⟩; obtain rfl : _ = w' := hw.symm)
        | (go_at_call 13; refine Calls.mono H2.out ?_; rintro e w' ⟨rfl, hw⟩; obtain rfl : _ = w' := hw.symm))
      refine Calls.mono H4.out ?_; rintro e w' ⟨rfl, hw⟩; obtain rfl : _ = w' := hw.symm
      go_wp2
      go_ret
      exact ⟨rfl, Below.refl _ _⟩
  -- go_enter Try.func3, Try.ntmps3
  -- go_wp2
  -- go_ret
  -- exact ⟨rfl, by repeat (first | exact Grown.refl _ | apply Grown.drew | apply Grown.alloc)⟩

set_option maxRecDepth 100000 in
theorem lifted (os : Os) (started : os.Started) (H : Type) (enc : TypeId × Value → H) :
    ReturnsInHanded {} Try.checked os 3 .any (Rows.quorumEnoughSpec.pre6 enc Try.prog Try.f3 Rows.quorumEnoughRow.domain false) (Rows.quorumEnoughSpec.post enc Try.prog Try.f3 false true false false) := by
  refine returnsInHanded_of_change (C := Try.checked) own started (by kernel_rfl) Try.func3
    (ChangeSpec.witness6 (enc := enc) (C := Try.checked) false ⟨#[], #[.int .u64 0, .int .u64 0], []⟩ 8 (by kernel_rfl) (by kernel_rfl) (by kernel_rfl) (by kernel_rfl)) ?_
  intro W base args ds gs before hval0 hW hcnd _
  have hval : ∀ (j : Nat) t v, Try.f3.params[j]? = some t → args[j]? = some v → Value.okWide Try.prog W .any base t v := hval0
  have hW' := hW
  obtain ⟨p, q, hA0, hV, rfl, hfz, hnd⟩ := hW
  have hA : DataW.TrodAll enc Try.prog W 0 (fun _ => true) true Try.f3.params.toList args.toList ds p := hA0
  rw [Try.params3] at hA hval
  obtain ⟨v0, vs0, d0, ds0, p0, q0, hargs, rfl, rfl, h0, r0⟩ := trodAll_cons hA
  obtain ⟨v1, vs1, d1, ds1, p1, q1, rfl, rfl, rfl, h1, r1⟩ := trodAll_cons r0
  obtain ⟨rfl, rfl, rfl⟩ := trodAll_nil r1
  obtain rfl : args = #[v0, v1] := by cases args; simp_all
  obtain ⟨rfl, rfl⟩ := trodVars_none hV
  obtain ⟨a0, rfl, rfl, rfl, w0⟩ := open_int Try.underlying22 (hval 0 22 v0 rfl rfl) h0
  obtain ⟨a1, rfl, rfl, rfl, w1⟩ := open_int Try.underlying22 (hval 1 22 v1 rfl rfl) h1
  clear hA0 hval0
  refine (walk a0 a1 w0 w1 W).mono fun e W' ⟨he, hg⟩ => ?_
  subst he
  exact ⟨_, rfl, _, _, _, [], _, [], hW', (trodAll_cons_mk (shut_bool Try.underlying4 _) trodAll_mk0), (trodAll_cons_mk (shut_int Try.underlying22 w0) (trodAll_cons_mk (shut_int Try.underlying22 w1) trodAll_mk0)), rfl, hg.frame _, fun h => by cases h⟩

theorem over : Rows.quorumEnoughRow.holds Try.pinned (OpenSpec.ofChange Rows.quorumEnoughSpec) :=
  OpenClaim.holds_of_wide 3 Try.f3 rfl rfl rfl rfl rfl rfl rfl ⟨rfl, rfl, rfl, rfl, rfl⟩ rfl rfl rfl rfl rfl (by kernel_rfl) Try.func3 (by kernel_rfl)
    (of_decide_eq_true (by kernel_rfl)) (by unfold Func.isWrapper; first | (rw [if_pos (by decide +kernel)]; kernel_rfl) | (rw [if_neg (by decide +kernel)]; exact ⟨rfl, rfl⟩))
    (fun os started H enc _ => lifted os started H enc)

theorem proved : Rows.QuorumEnoughSaid :=
  over
end Go.Proofs.Ytikehicojmcmiaa.quorumEnough

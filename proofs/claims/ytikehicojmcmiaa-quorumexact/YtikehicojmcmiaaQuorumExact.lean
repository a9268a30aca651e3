/-
  two thirds and a third of small numbers are what counting says (QuorumExact is true of every input).
-/
import Derived.Test.YtikehicojmcmiaaRows

import Derived.WalkKit

import Derived.Below

import Derived.ProofKit

import Derived.OpenShut

import Derived.ShutString

import Derived.Test.YtikehicojmcmiaaQRead

namespace Go.Proofs.Ytikehicojmcmiaa.quorumExact

open Go.ChangeShapes Go.WideShapes Go.ChangeAt Go.RowKit

open Go.ChangeMaps (open_string shut_string)

set_option linter.unusedVariables false      -- a walk need not use every 'w<i>' (that an integer argument fits its kind)

theorem own : ownKnob Try.prog.godebug = none := by kernel_rfl

set_option maxHeartbeats 1000000 in
theorem walk (a0 : Int) (a1 : Int) (w0 : (Lit.int .u32 a0).wf = true) (w1 : (Lit.int .u32 a1).wf = true) (w : World) :
    Calls Try.prog 7 #[.int .u32 a0, .int .u32 a1] w fun e w' => e = .returned (.bool true) ∧ Below w.heap.size w w' := by
  have hA := wf_u32q w0
  have hB := wf_u32q w1
  clear w0 w1
  obtain ⟨n, hn⟩ : ∃ x, Hid (a0 % 1000 = x) := ⟨_, rfl⟩
  obtain ⟨s, hs⟩ : ∃ x, Hid (a1 % 1200 = x) := ⟨_, rfl⟩
  have bn : 0 ≤ n ∧ n < 1000 := by have := hn.out; omega
  have bs : 0 ≤ s ∧ s < 1200 := by have := hs.out; omega
  have H1 := hide (enough_any s n w (by omega) (by omega))
  have H2 := hide (third_any s n w (by omega) (by omega))
  rcases (by omega : n = 0 ∨ (0 < n ∧ 2 * n ≤ 3 * s) ∨ (0 < n ∧ n ≤ 3 * s ∧ 3 * s < 2 * n) ∨ (0 < n ∧ 3 * s < n)) with h | ⟨h0, h⟩ | ⟨h0, h, h1⟩ | ⟨h0, h⟩
  all_goals
    first | rw [show enB s n = false from decide_eq_false (by omega)] at H1 | rw [show enB s n = true from decide_eq_true (by omega)] at H1
    first | rw [show thB s n = false from decide_eq_false (by omega)] at H2 | rw [show thB s n = true from decide_eq_true (by omega)] at H2
    try subst h
    go_enter Try.func7, Try.ntmps7
    go_wp2_with fail
    refine (awake_any _).mono ?_
    rintro e w' ⟨rfl, hw⟩; obtain rfl : _ = w' := hw.symm
    go_wp2_with fail
    rw [hn.out, hs.out]
    go_wp2_with (first
      | (go_at_call 11; refine Calls.mono H1.out ?_; rintro e w' ⟨rfl, hw⟩; obtain rfl : _ = w' := hw.symm)
      | (go_at_call 13; refine Calls.mono H2.out ?_; rintro e w' ⟨rfl, hw⟩; obtain rfl : _ = w' := hw.symm))
    go_ret
    refine ⟨ret_bool ?_, Below.refl _ _⟩
    first | rfl | exact decide_eq_true (by omega) | (simp; omega)
  -- go_enter Try.func7, Try.ntmps7
  -- go_wp2
  -- go_ret
  -- exact ⟨rfl, by repeat (first | exact Grown.refl _ | apply Grown.drew | apply Grown.alloc)⟩

set_option maxRecDepth 100000 in
theorem lifted (os : Os) (started : os.Started) (H : Type) (enc : TypeId × Value → H) :
    ReturnsInHanded {} Try.checked os 7 .any (Rows.quorumExactSpec.pre6 enc Try.prog Try.f7 Rows.quorumExactRow.domain false) (Rows.quorumExactSpec.post enc Try.prog Try.f7 false true false false) := by
  refine returnsInHanded_of_change (C := Try.checked) own started (by kernel_rfl) Try.func7
    (ChangeSpec.witness6 (enc := enc) (C := Try.checked) false ⟨#[], #[.int .u32 0, .int .u32 0], []⟩ 8 (by kernel_rfl) (by kernel_rfl) (by kernel_rfl) (by kernel_rfl)) ?_
  intro W base args ds gs before hval0 hW hcnd _
  have hval : ∀ (j : Nat) t v, Try.f7.params[j]? = some t → args[j]? = some v → Value.okWide Try.prog W .any base t v := hval0
  have hW' := hW
  obtain ⟨p, q, hA0, hV, rfl, hfz, hnd⟩ := hW
  have hA : DataW.TrodAll enc Try.prog W 0 (fun _ => true) true Try.f7.params.toList args.toList ds p := hA0
  rw [Try.params7] at hA hval
  obtain ⟨v0, vs0, d0, ds0, p0, q0, hargs, rfl, rfl, h0, r0⟩ := trodAll_cons hA
  obtain ⟨v1, vs1, d1, ds1, p1, q1, rfl, rfl, rfl, h1, r1⟩ := trodAll_cons r0
  obtain ⟨rfl, rfl, rfl⟩ := trodAll_nil r1
  obtain rfl : args = #[v0, v1] := by cases args; simp_all
  obtain ⟨rfl, rfl⟩ := trodVars_none hV
  obtain ⟨a0, rfl, rfl, rfl, w0⟩ := open_int Try.underlying28 (hval 0 28 v0 rfl rfl) h0
  obtain ⟨a1, rfl, rfl, rfl, w1⟩ := open_int Try.underlying28 (hval 1 28 v1 rfl rfl) h1
  clear hA0 hval0
  refine (walk a0 a1 w0 w1 W).mono fun e W' ⟨he, hg⟩ => ?_
  subst he
  exact ⟨_, rfl, _, _, _, [], _, [], hW', (trodAll_cons_mk (shut_bool Try.underlying4 _) trodAll_mk0), (trodAll_cons_mk (shut_int Try.underlying28 w0) (trodAll_cons_mk (shut_int Try.underlying28 w1) trodAll_mk0)), rfl, hg.frame _, fun h => by cases h⟩

theorem over : Rows.quorumExactRow.holds Try.pinned (OpenSpec.ofChange Rows.quorumExactSpec) :=
  OpenClaim.holds_of_wide 7 Try.f7 rfl rfl rfl rfl rfl rfl rfl ⟨rfl, rfl, rfl, rfl, rfl⟩ rfl rfl rfl rfl rfl (by kernel_rfl) Try.func7 (by kernel_rfl)
    (of_decide_eq_true (by kernel_rfl)) (by unfold Func.isWrapper; first | (rw [if_pos (by decide +kernel)]; kernel_rfl) | (rw [if_neg (by decide +kernel)]; exact ⟨rfl, rfl⟩))
    (fun os started H enc _ => lifted os started H enc)

theorem proved : Rows.QuorumExactSaid :=
  over
end Go.Proofs.Ytikehicojmcmiaa.quorumExact

/-
  of nothing nothing is enough; nobody is enough of something; parts that are all share what the other has (QuorumNone is true of every input).
-/
import Derived.Test.YtikehicojmcmiaaRows

import Derived.WalkKit

import Derived.Below

import Derived.ProofKit

import Derived.OpenShut

import Derived.ShutString

import Derived.Test.YtikehicojmcmiaaQRead

namespace Go.Proofs.Ytikehicojmcmiaa.quorumNone

open Go.ChangeShapes Go.WideShapes Go.ChangeAt Go.RowKit

open Go.ChangeMaps (open_string shut_string)

set_option linter.unusedVariables false      -- a walk need not use every 'w<i>' (that an integer argument fits its kind)

theorem own : ownKnob Try.prog.godebug = none := by kernel_rfl

set_option maxHeartbeats 1000000 in
theorem walk (a0 : Int) (w0 : (Lit.int .u64 a0).wf = true) (w : World) :
    Calls Try.prog 9 #[.int .u64 a0] w fun e w' => e = .returned (.bool true) ∧ Below w.heap.size w w' := by
  have hA := wf_u64 w0
  clear w0
  have H1 := hide (enough_any a0 0 w hA (by omega))
  have H2 := hide (third_any a0 0 w hA (by omega))
  have H3 := hide (enough_any 0 a0 w (by omega) hA)
  have H4 := hide (third_any a0 a0 w hA hA)
  have H5 := hide (meet_any a0 a0 a0 w hA hA hA)
  have H6 := hide (meet_any a0 0 a0 w hA (by omega) hA)
  have H7 := hide (meet_any a0 (a0 / 2) a0 w hA (by omega) hA)
  rw [show enB a0 0 = false from decide_eq_false (by omega)] at H1
  rw [show thB a0 0 = false from decide_eq_false (by omega)] at H2
  rw [show enB 0 a0 = false from decide_eq_false (by omega)] at H3
  rw [show mtI a0 a0 a0 = a0 from by unfold mtI; split <;> omega] at H5
  rw [show mtI a0 0 a0 = 0 from by unfold mtI; split <;> omega] at H6
  rw [show mtI a0 (a0 / 2) a0 = a0 / 2 from by unfold mtI; split <;> omega] at H7
  rcases (by omega : a0 = 0 ∨ 0 < a0) with h | h
  · subst h
    have H1 := hide (enough_any 0 0 w hA hA)
    have H2 := hide (third_any 0 0 w hA hA)
    have H5 := hide (meet_any 0 0 0 w hA hA hA)
    clear H3 H4 H6 H7
    rw [show enB 0 0 = false from rfl] at H1
    rw [show thB 0 0 = false from rfl] at H2
    rw [show mtI 0 0 0 = 0 from rfl] at H5
    go_enter Try.func9, Try.ntmps9
    go_wp2_with (first
      | (go_at_call 10; refine (awake_any _).mono ?_; rintro e w' ⟨rfl, hw⟩; obtain rfl : _ = w' := hw.symm)
      | (go_at_call 11; with_reducible refine Calls.mono H1.out ?_
         rintro e w' ⟨rfl, hw⟩; obtain rfl : _ = w' := hw.symm)
      | (go_at_call 13; with_reducible refine Calls.mono H2.out ?_
         rintro e w' ⟨rfl, hw⟩; obtain rfl : _ = w' := hw.symm)
      | (go_at_call 14; with_reducible refine Calls.mono H5.out ?_
         rintro e w' ⟨rfl, hw⟩; obtain rfl : _ = w' := hw.symm))
    go_ret
    exact ⟨rfl, Below.refl _ _⟩
  · rw [show thB a0 a0 = true from decide_eq_true (by omega)] at H4
    go_enter Try.func9, Try.ntmps9
    go_wp2_with (first
      | (go_at_call 10; refine (awake_any _).mono ?_; rintro e w' ⟨rfl, hw⟩; obtain rfl : _ = w' := hw.symm)
      | (go_at_call 11; first | with_reducible refine Calls.mono H1.out ?_ | with_reducible refine Calls.mono H3.out ?_
         rintro e w' ⟨rfl, hw⟩; obtain rfl : _ = w' := hw.symm)
      | (go_at_call 13; first | with_reducible refine Calls.mono H2.out ?_ | with_reducible refine Calls.mono H4.out ?_
         rintro e w' ⟨rfl, hw⟩; obtain rfl : _ = w' := hw.symm)
      | (go_at_call 14; first | with_reducible refine Calls.mono H5.out ?_ | with_reducible refine Calls.mono H6.out ?_ | with_reducible refine Calls.mono H7.out ?_
         rintro e w' ⟨rfl, hw⟩; obtain rfl : _ = w' := hw.symm))
    go_ret
    refine ⟨ret_bool ?_, Below.refl _ _⟩
    first | rfl | exact decide_eq_true (by omega) | (simp; omega) | simp
  -- go_enter Try.func9, Try.ntmps9
  -- go_wp2
  -- go_ret
  -- exact ⟨rfl, by repeat (first | exact Grown.refl _ | apply Grown.drew | apply Grown.alloc)⟩

set_option maxRecDepth 100000 in
theorem lifted (os : Os) (started : os.Started) (H : Type) (enc : TypeId × Value → H) :
    ReturnsInHanded {} Try.checked os 9 .any (Rows.quorumNoneSpec.pre6 enc Try.prog Try.f9 Rows.quorumNoneRow.domain false) (Rows.quorumNoneSpec.post enc Try.prog Try.f9 false true false false) := by
  refine returnsInHanded_of_change (C := Try.checked) own started (by kernel_rfl) Try.func9
    (ChangeSpec.witness6 (enc := enc) (C := Try.checked) false ⟨#[], #[.int .u64 0], []⟩ 8 (by kernel_rfl) (by kernel_rfl) (by kernel_rfl) (by kernel_rfl)) ?_
  intro W base args ds gs before hval0 hW hcnd _
  have hval : ∀ (j : Nat) t v, Try.f9.params[j]? = some t → args[j]? = some v → Value.okWide Try.prog W .any base t v := hval0
  have hW' := hW
  obtain ⟨p, q, hA0, hV, rfl, hfz, hnd⟩ := hW
  have hA : DataW.TrodAll enc Try.prog W 0 (fun _ => true) true Try.f9.params.toList args.toList ds p := hA0
  rw [Try.params9] at hA hval
  obtain ⟨v0, vs0, d0, ds0, p0, q0, hargs, rfl, rfl, h0, r0⟩ := trodAll_cons hA
  obtain ⟨rfl, rfl, rfl⟩ := trodAll_nil r0
  obtain rfl : args = #[v0] := by cases args; simp_all
  obtain ⟨rfl, rfl⟩ := trodVars_none hV
  obtain ⟨a0, rfl, rfl, rfl, w0⟩ := open_int Try.underlying22 (hval 0 22 v0 rfl rfl) h0
  clear hA0 hval0
  refine (walk a0 w0 W).mono fun e W' ⟨he, hg⟩ => ?_
  subst he
  exact ⟨_, rfl, _, _, _, [], _, [], hW', (trodAll_cons_mk (shut_bool Try.underlying4 _) trodAll_mk0), (trodAll_cons_mk (shut_int Try.underlying22 w0) trodAll_mk0), rfl, hg.frame _, fun h => by cases h⟩

theorem over : Rows.quorumNoneRow.holds Try.pinned (OpenSpec.ofChange Rows.quorumNoneSpec) :=
  OpenClaim.holds_of_wide 9 Try.f9 rfl rfl rfl rfl rfl rfl rfl ⟨rfl, rfl, rfl, rfl, rfl⟩ rfl rfl rfl rfl rfl (by kernel_rfl) Try.func9 (by kernel_rfl)
    (of_decide_eq_true (by kernel_rfl)) (by unfold Func.isWrapper; first | (rw [if_pos (by decide +kernel)]; kernel_rfl) | (rw [if_neg (by decide +kernel)]; exact ⟨rfl, rfl⟩))
    (fun os started H enc _ => lifted os started H enc)

theorem proved : Rows.QuorumNoneSaid :=
  over
end Go.Proofs.Ytikehicojmcmiaa.quorumNone

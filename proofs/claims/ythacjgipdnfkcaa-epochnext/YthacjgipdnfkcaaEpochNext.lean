/-
  a slot later it is the same epoch, or the next one, where that begins (EpochNext is true of every input).
-/
import Derived.Test.YthacjgipdnfkcaaRows
import Derived.WalkKit
import Derived.Below
import Derived.ProofKit
import Derived.OpenShut
import Derived.ShutString
import Derived.Test.YthacjgipdnfkcaaEpMath
namespace Go.Proofs.Ythacjgipdnfkcaa.epochNext
open Go.ChangeShapes Go.WideShapes Go.ChangeAt Go.RowKit
open Go.ChangeMaps (open_string shut_string)
set_option linter.unusedVariables false      -- a walk need not use every 'w<i>' (that an integer argument fits its kind)

theorem own : ownKnob Try.prog.godebug = none := by kernel_rfl

set_option maxHeartbeats 1000000 in
theorem walk (a0 : Int) (a1 : Int) (w0 : (Lit.int .u32 a0).wf = true) (w1 : (Lit.int .u8 a1).wf = true) (w : World) :
    Calls Try.prog 7 #[.int .u32 a0, .int .u8 a1] w fun e w' => e = .returned (.bool true) ∧ Below w.heap.size w w' := by
  have hE := wf_u32 w0
  have hS := wf_u8 w1
  clear w0 w1
  obtain ⟨n, hnn⟩ : ∃ n, Hid (1 + a1 % 64 = n) := ⟨_, rfl⟩
  have hn : 1 ≤ n ∧ n ≤ 64 := by have := hnn.out; omega
  have hb := epo_b (a := a0) (s := n) (by omega) (by omega)
  have hle : epo a0 n ≤ 4294967295 := by
    rw [epo_pos a0 n hE.1 hn.1]
    exact Int.le_trans (Int.ediv_le_self _ hE.1) hE.2
  obtain ⟨c, hc⟩ : ∃ c, Hid (epo a0 n = c) := ⟨_, rfl⟩
  rw [hc.out] at hb hle
  rcases epo_next a0 n hE.1 hn.1 with ⟨hm, he⟩ | ⟨hm, he⟩
  all_goals
    have q1 : Hid (epo (a0 + 1) n = _) := he
    rw [hc.out] at q1
    have q2 : Hid (firB (a0 + 1) n = _) := fir_pos (a0 + 1) n (by omega) hn.1
    have q3 : Hid (ends a0 (a0 + 1) n = epo (a0 + 1) n - epo a0 n) := by
      have h : ends a0 (a0 + 1) n = epo (a0 + 1) n - epo a0 n := by unfold ends; rw [if_pos (by omega)]
      exact h
    rw [q1.out, hc.out] at q3
    clear he
  · rw [decide_eq_true hm] at q2
    go_enter Try.func7, Try.ntmps7
    go_wp2_with fail
    refine (awake_any _).mono ?_
    rintro e w1 ⟨rfl, hbel⟩
    go_wp2_with fail
    rw [hnn.out]
    go_wp2_with (first
      | (go_at_call 11; refine (first_any _ _ _ (by omega) (by omega)).mono ?_; rintro e w' ⟨rfl, hw⟩; obtain rfl : _ = w' := hw.symm; rw [q2.out])
      | (go_at_call 10; refine (of_any _ _ _ (by omega) (by omega)).mono ?_; rintro e w' ⟨rfl, hw⟩; obtain rfl : _ = w' := hw.symm; first | rw [q1.out] | rw [hc.out])
      | (go_at_call 13; refine (ends_some _ _ _ 1 _ (by omega) (by omega) (by omega) (by omega) (by rw [q3.out]; omega)).mono ?_))
    rintro e w2 ⟨rfl, _, hbel2⟩
    go_wp2
    go_ret
    exact ⟨by simp; omega, hbel.trans (hbel2.mono hbel.size)⟩
  · rw [decide_eq_false hm] at q2
    go_enter Try.func7, Try.ntmps7
    go_wp2_with fail
    refine (awake_any _).mono ?_
    rintro e w1 ⟨rfl, hbel⟩
    go_wp2_with fail
    rw [hnn.out]
    go_wp2_with (first
      | (go_at_call 11; refine (first_any _ _ _ (by omega) (by omega)).mono ?_; rintro e w' ⟨rfl, hw⟩; obtain rfl : _ = w' := hw.symm; rw [q2.out])
      | (go_at_call 10; refine (of_any _ _ _ (by omega) (by omega)).mono ?_; rintro e w' ⟨rfl, hw⟩; obtain rfl : _ = w' := hw.symm; first | rw [q1.out] | rw [hc.out])
      | (go_at_call 13; refine (ends_none _ _ _ _ (by omega) (by omega) (by omega) (by rw [q3.out]; omega)).mono ?_; rintro e w' ⟨rfl, hw⟩; obtain rfl : _ = w' := hw.symm))
    go_ret
    exact ⟨by simp; omega, hbel⟩
  -- go_enter Try.func7, Try.ntmps7
  -- go_wp2
  -- go_ret
  -- exact ⟨rfl, by repeat (first | exact Grown.refl _ | apply Grown.drew | apply Grown.alloc)⟩

set_option maxRecDepth 100000 in
theorem lifted (os : Os) (started : os.Started) (H : Type) (enc : TypeId × Value → H) :
    ReturnsInHanded {} Try.checked os 7 .any (Rows.epochNextSpec.pre6 enc Try.prog Try.f7 Rows.epochNextRow.domain false) (Rows.epochNextSpec.post enc Try.prog Try.f7 false true false false) := by
  refine returnsInHanded_of_change (C := Try.checked) own started (by kernel_rfl) Try.func7
    (ChangeSpec.witness6 (enc := enc) (C := Try.checked) false ⟨#[], #[.int .u32 0, .int .u8 0], []⟩ 8 (by kernel_rfl) (by kernel_rfl) (by kernel_rfl) (by kernel_rfl)) ?_
  intro W base args ds gs before hval0 hW hcnd _
  have hval : ∀ (j : Nat) t v, Try.f7.params[j]? = some t → args[j]? = some v → Value.okWide Try.prog W .any base t v := hval0
  have hW' := hW
  obtain ⟨p, q, hA0, hV, rfl, hfz, hnd⟩ := hW
  have hA : DataW.TrodAll enc Try.prog W 0 (fun _ => true) true Try.f7.params.toList args.toList ds p := hA0
  rw [Try.params7] at hA hval
  obtain ⟨v0, vs0, d0, ds0, p0, q0, hargs, rfl, rfl, h0, r0⟩ := trodAll_cons hA
  obtain ⟨v1, vs1, d1, ds1, p1, q1, rfl, rfl, rfl, h1, r1⟩ := trodAll_cons r0
  obtain ⟨rfl, rfl, rfl⟩ := trodAll_nil r1
  obtain rfl : args = #[v0, v1] := by cases args; simp_all
  obtain ⟨rfl, rfl⟩ := trodVars_none hV
  obtain ⟨a0, rfl, rfl, rfl, w0⟩ := open_int Try.underlying25 (hval 0 25 v0 rfl rfl) h0
  obtain ⟨a1, rfl, rfl, rfl, w1⟩ := open_int Try.underlying5 (hval 1 5 v1 rfl rfl) h1
  clear hA0 hval0
  refine (walk a0 a1 w0 w1 W).mono fun e W' ⟨he, hg⟩ => ?_
  subst he
  exact ⟨_, rfl, _, _, _, [], _, [], hW', (trodAll_cons_mk (shut_bool Try.underlying4 _) trodAll_mk0), (trodAll_cons_mk (shut_int Try.underlying25 w0) (trodAll_cons_mk (shut_int Try.underlying5 w1) trodAll_mk0)), rfl, hg.frame _, fun h => by cases h⟩

theorem over : Rows.epochNextRow.holds Try.pinned (OpenSpec.ofChange Rows.epochNextSpec) :=
  OpenClaim.holds_of_wide 7 Try.f7 rfl rfl rfl rfl rfl rfl rfl ⟨rfl, rfl, rfl, rfl, rfl⟩ rfl rfl rfl rfl rfl (by kernel_rfl) Try.func7 (by kernel_rfl)
    (of_decide_eq_true (by kernel_rfl)) (by unfold Func.isWrapper; first | (rw [if_pos (by decide +kernel)]; kernel_rfl) | (rw [if_neg (by decide +kernel)]; exact ⟨rfl, rfl⟩))
    (fun os started H enc _ => lifted os started H enc)

theorem proved : Rows.EpochNextSaid :=
  over
end Go.Proofs.Ythacjgipdnfkcaa.epochNext

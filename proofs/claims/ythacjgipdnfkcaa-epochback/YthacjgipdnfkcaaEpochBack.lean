/-
  an epoch's slots are all its own, and the first one alone is its first (EpochBack is true of every input).
-/
import Derived.Test.YthacjgipdnfkcaaRows
import Derived.WalkKit
import Derived.Below
import Derived.ProofKit
import Derived.OpenShut
import Derived.ShutString
import Derived.Test.YthacjgipdnfkcaaEpMath
namespace Go.Proofs.Ythacjgipdnfkcaa.epochBack
open Go.ChangeShapes Go.WideShapes Go.ChangeAt Go.RowKit
open Go.ChangeMaps (open_string shut_string)
set_option linter.unusedVariables false      -- a walk need not use every 'w<i>' (that an integer argument fits its kind)

theorem own : ownKnob Try.prog.godebug = none := by kernel_rfl

set_option maxHeartbeats 1000000 in
theorem walk (a0 : Int) (a1 : Int) (a2 : Int) (w0 : (Lit.int .u32 a0).wf = true) (w1 : (Lit.int .u8 a1).wf = true) (w2 : (Lit.int .u8 a2).wf = true) (w : World) :
    Calls Try.prog 5 #[.int .u32 a0, .int .u8 a1, .int .u8 a2] w fun e w' => e = .returned (.bool true) ∧ Below w.heap.size w w' := by
  have hE := wf_u32 w0
  have hS := wf_u8 w1
  have hI := wf_u8 w2
  clear w0 w1 w2
  obtain ⟨n, hnn⟩ : ∃ n, Hid (1 + a1 % 64 = n) := ⟨_, rfl⟩
  have hn : 1 ≤ n ∧ n ≤ 64 := by have := hnn.out; omega
  obtain ⟨s, hss⟩ : ∃ s, Hid (a0 * n = s) := ⟨_, rfl⟩
  have hs : 0 ≤ s ∧ s ≤ 274877906880 ∧ (1 ≤ a0 → n ≤ s) := by have := mul_b a0 n hE hn; rw [hss.out] at this; exact this
  obtain ⟨k, hkk⟩ : ∃ k, Hid (a2 % n = k) := ⟨_, rfl⟩
  have hk : 0 ≤ k ∧ k < n := by
    have h := hkk.out
    have h1 := Int.emod_nonneg a2 (show n ≠ 0 by omega)
    have h2 := Int.emod_lt_of_pos a2 (show 0 < n by omega)
    omega
  have q1 : Hid (wrap64 (lo0 a0 * lo1 n) = s) := by
    have h : wrap64 (lo0 a0 * lo1 n) = s := by rw [lo0_in _ hE.1, lo1_in _ hn.1, hss.out, IntWalk.wrap64_in _ (by omega)]
    exact h
  have q2 : Hid (epo (s + k) n = a0) := by
    have h := epo_in a0 n k hE.1 hn.1 hk
    rw [hss.out] at h
    exact h
  have q3 : Hid (firB (s + k) n = (k == 0)) := by
    have h := fir_in a0 n k hE.1 hn.1 hk
    rw [hss.out] at h
    exact h
  have q4 : Hid (epo (s + n) n = a0 + 1) := by
    have h := epo_in (a0 + 1) n 0 (by omega) hn.1 (by omega)
    rw [Int.add_mul, hss.out, Int.one_mul, Int.add_zero] at h
    exact h
  by_cases h0 : a0 = 0
  all_goals
    have q5 : Hid (a0 = 0 ∨ epo (s - 1) n = a0 - 1) := by
      by_cases h : a0 = 0
      · exact .inl h
      · have h := epo_in (a0 - 1) n (n - 1) (by omega) hn.1 (by omega)
        rw [Int.sub_mul, hss.out, Int.one_mul, show s - n + (n - 1) = s - 1 from by omega] at h
        exact .inr h
    try subst h0
    go_enter Try.func5, Try.ntmps5
    go_wp2_with fail
    refine (awake_any _).mono ?_
    rintro e w1 ⟨rfl, hbel⟩
    go_wp2_with fail
    rw [hnn.out]
    have hkr : a2 % n = k := hkk.out
    go_wp2_with (first
      | (go_at_call 12; refine (start_any _ _ _ (by omega) (by omega)).mono ?_; rintro e w' ⟨rfl, hw⟩; obtain rfl : _ = w' := hw.symm; rw [q1.out])
      | (go_at_call 11; refine (first_any _ _ _ (by omega) (by omega)).mono ?_; rintro e w' ⟨rfl, hw⟩; obtain rfl : _ = w' := hw.symm; rw [q3.out])
      | (go_at_call 10; refine (of_any _ _ _ (by omega) (by omega)).mono ?_; rintro e w' ⟨rfl, hw⟩; obtain rfl : _ = w' := hw.symm; first | rw [q2.out] | rw [q4.out] | rw [q5.out.resolve_left (by omega)]))
    go_ret
    exact ⟨by simp, hbel⟩
  -- go_enter Try.func5, Try.ntmps5
  -- go_wp2
  -- go_ret
  -- exact ⟨rfl, by repeat (first | exact Grown.refl _ | apply Grown.drew | apply Grown.alloc)⟩

set_option maxRecDepth 100000 in
theorem lifted (os : Os) (started : os.Started) (H : Type) (enc : TypeId × Value → H) :
    ReturnsInHanded {} Try.checked os 5 .any (Rows.epochBackSpec.pre6 enc Try.prog Try.f5 Rows.epochBackRow.domain false) (Rows.epochBackSpec.post enc Try.prog Try.f5 false true false false) := by
  refine returnsInHanded_of_change (C := Try.checked) own started (by kernel_rfl) Try.func5
    (ChangeSpec.witness6 (enc := enc) (C := Try.checked) false ⟨#[], #[.int .u32 0, .int .u8 0, .int .u8 0], []⟩ 8 (by kernel_rfl) (by kernel_rfl) (by kernel_rfl) (by kernel_rfl)) ?_
  intro W base args ds gs before hval0 hW hcnd _
  have hval : ∀ (j : Nat) t v, Try.f5.params[j]? = some t → args[j]? = some v → Value.okWide Try.prog W .any base t v := hval0
  have hW' := hW
  obtain ⟨p, q, hA0, hV, rfl, hfz, hnd⟩ := hW
  have hA : DataW.TrodAll enc Try.prog W 0 (fun _ => true) true Try.f5.params.toList args.toList ds p := hA0
  rw [Try.params5] at hA hval
  obtain ⟨v0, vs0, d0, ds0, p0, q0, hargs, rfl, rfl, h0, r0⟩ := trodAll_cons hA
  obtain ⟨v1, vs1, d1, ds1, p1, q1, rfl, rfl, rfl, h1, r1⟩ := trodAll_cons r0
  obtain ⟨v2, vs2, d2, ds2, p2, q2, rfl, rfl, rfl, h2, r2⟩ := trodAll_cons r1
  obtain ⟨rfl, rfl, rfl⟩ := trodAll_nil r2
  obtain rfl : args = #[v0, v1, v2] := by cases args; simp_all
  obtain ⟨rfl, rfl⟩ := trodVars_none hV
  obtain ⟨a0, rfl, rfl, rfl, w0⟩ := open_int Try.underlying25 (hval 0 25 v0 rfl rfl) h0
  obtain ⟨a1, rfl, rfl, rfl, w1⟩ := open_int Try.underlying5 (hval 1 5 v1 rfl rfl) h1
  obtain ⟨a2, rfl, rfl, rfl, w2⟩ := open_int Try.underlying5 (hval 2 5 v2 rfl rfl) h2
  clear hA0 hval0
  refine (walk a0 a1 a2 w0 w1 w2 W).mono fun e W' ⟨he, hg⟩ => ?_
  subst he
  exact ⟨_, rfl, _, _, _, [], _, [], hW', (trodAll_cons_mk (shut_bool Try.underlying4 _) trodAll_mk0), (trodAll_cons_mk (shut_int Try.underlying25 w0) (trodAll_cons_mk (shut_int Try.underlying5 w1) (trodAll_cons_mk (shut_int Try.underlying5 w2) trodAll_mk0))), rfl, hg.frame _, fun h => by cases h⟩

theorem over : Rows.epochBackRow.holds Try.pinned (OpenSpec.ofChange Rows.epochBackSpec) :=
  OpenClaim.holds_of_wide 5 Try.f5 rfl rfl rfl rfl rfl rfl rfl ⟨rfl, rfl, rfl, rfl, rfl⟩ rfl rfl rfl rfl rfl (by kernel_rfl) Try.func5 (by kernel_rfl)
    (of_decide_eq_true (by kernel_rfl)) (by unfold Func.isWrapper; first | (rw [if_pos (by decide +kernel)]; kernel_rfl) | (rw [if_neg (by decide +kernel)]; exact ⟨rfl, rfl⟩))
    (fun os started H enc _ => lifted os started H enc)

theorem proved : Rows.EpochBackSaid :=
  over
end Go.Proofs.Ythacjgipdnfkcaa.epochBack

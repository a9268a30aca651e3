/-
  what is below 0, or no number of slots, counts as the document says (EpochLow is true of every input).
-/
import Derived.Test.YthacjgipdnfkcaaRows
import Derived.WalkKit
import Derived.Below
import Derived.ProofKit
import Derived.OpenShut
import Derived.ShutString
import Derived.Test.YthacjgipdnfkcaaEpAwake
namespace Go.Proofs.Ythacjgipdnfkcaa.epochLow
open Go.ChangeShapes Go.WideShapes Go.ChangeAt Go.RowKit
open Go.ChangeMaps (open_string shut_string)
set_option linter.unusedVariables false      -- a walk need not use every 'w<i>' (that an integer argument fits its kind)

theorem own : ownKnob Try.prog.godebug = none := by kernel_rfl

theorem epo_low (s n : Int) (h : s ≤ 0) : epo s n = 0 := by
  have : lo0 s = 0 := by unfold lo0; split <;> omega
  simp [epo, this]
theorem start_low (s n : Int) (h : s ≤ 0) : wrap64 (lo0 s * lo1 n) = 0 := by
  have : lo0 s = 0 := by unfold lo0; split <;> omega
  simp [this, wrap64]
theorem epo_one (s n : Int) (h : n ≤ 0) : epo s n = lo0 s := by
  have : lo1 n = 1 := by unfold lo1; split <;> omega
  simp [epo, this]
theorem lo0_pos (s : Int) (h : 0 < s) : lo0 s = s := by unfold lo0; split <;> omega
theorem lo0_neg (s : Int) (h : s ≤ 0) : lo0 s = 0 := by unfold lo0; split <;> omega
theorem ends_low (a s n : Int) (h : s ≤ 0) (ha : -9223372036854775808 ≤ a ∧ a ≤ 9223372036854775807) (hn : -9223372036854775808 ≤ n ∧ n ≤ 9223372036854775807) : ends a s n ≤ 0 := by
  have h1 := epo_b ha hn
  have h2 := epo_low s n h
  unfold ends
  split <;> omega
set_option maxHeartbeats 1000000 in
theorem walk (a0 : Int) (a1 : Int) (w0 : (Lit.int .i64 a0).wf = true) (w1 : (Lit.int .i64 a1).wf = true) (w : World) :
    Calls Try.prog 8 #[.int .i64 a0, .int .i64 a1] w fun e w' => e = .returned (.bool true) ∧ Below w.heap.size w w' := by
  have hA := wf_i64 w0
  have hB := wf_i64 w1
  clear w0 w1
  by_cases hp : 0 < a0 <;> by_cases hq : 0 < a1
  all_goals
    go_enter Try.func8, Try.ntmps8
    go_wp2_with fail
    refine (awake_any _).mono ?_
    rintro e w1 ⟨rfl, hbel⟩
    go_wp2_with (first
      | (go_at_call 10
         refine (of_any _ _ _ (by omega) (by omega)).mono ?_
         rintro e w' ⟨rfl, hw⟩
         obtain rfl : _ = w' := hw.symm
         first
           | rw [epo_low _ a1 (by omega)]
           | rw [epo_one _ _ (by omega), lo0_pos _ (by omega)]
           | rw [epo_one _ _ (by omega), lo0_neg _ (by omega)])
      | (go_at_call 13; refine (ends_none _ _ _ _ (by omega) (by omega) (by omega) (ends_low _ _ _ (by omega) (by omega) (by omega))).mono ?_; rintro e w' ⟨rfl, hw⟩; obtain rfl : _ = w' := hw.symm)
      | (go_at_call 12; refine (start_any _ _ _ (by omega) (by omega)).mono ?_; rintro e w' ⟨rfl, hw⟩; obtain rfl : _ = w' := hw.symm; rw [start_low _ _ (by omega)]))
    all_goals go_ret
    all_goals exact ⟨rfl, hbel⟩
  -- go_enter Try.func8, Try.ntmps8
  -- go_wp2
  -- go_ret
  -- exact ⟨rfl, by repeat (first | exact Grown.refl _ | apply Grown.drew | apply Grown.alloc)⟩

set_option maxRecDepth 100000 in
theorem lifted (os : Os) (started : os.Started) (H : Type) (enc : TypeId × Value → H) :
    ReturnsInHanded {} Try.checked os 8 .any (Rows.epochLowSpec.pre6 enc Try.prog Try.f8 Rows.epochLowRow.domain false) (Rows.epochLowSpec.post enc Try.prog Try.f8 false true false false) := by
  refine returnsInHanded_of_change (C := Try.checked) own started (by kernel_rfl) Try.func8
    (ChangeSpec.witness6 (enc := enc) (C := Try.checked) false ⟨#[], #[.int .i64 0, .int .i64 0], []⟩ 8 (by kernel_rfl) (by kernel_rfl) (by kernel_rfl) (by kernel_rfl)) ?_
  intro W base args ds gs before hval0 hW hcnd _
  have hval : ∀ (j : Nat) t v, Try.f8.params[j]? = some t → args[j]? = some v → Value.okWide Try.prog W .any base t v := hval0
  have hW' := hW
  obtain ⟨p, q, hA0, hV, rfl, hfz, hnd⟩ := hW
  have hA : DataW.TrodAll enc Try.prog W 0 (fun _ => true) true Try.f8.params.toList args.toList ds p := hA0
  rw [Try.params8] at hA hval
  obtain ⟨v0, vs0, d0, ds0, p0, q0, hargs, rfl, rfl, h0, r0⟩ := trodAll_cons hA
  obtain ⟨v1, vs1, d1, ds1, p1, q1, rfl, rfl, rfl, h1, r1⟩ := trodAll_cons r0
  obtain ⟨rfl, rfl, rfl⟩ := trodAll_nil r1
  obtain rfl : args = #[v0, v1] := by cases args; simp_all
  obtain ⟨rfl, rfl⟩ := trodVars_none hV
  obtain ⟨a0, rfl, rfl, rfl, w0⟩ := open_int Try.underlying3 (hval 0 3 v0 rfl rfl) h0
  obtain ⟨a1, rfl, rfl, rfl, w1⟩ := open_int Try.underlying3 (hval 1 3 v1 rfl rfl) h1
  clear hA0 hval0
  refine (walk a0 a1 w0 w1 W).mono fun e W' ⟨he, hg⟩ => ?_
  subst he
  exact ⟨_, rfl, _, _, _, [], _, [], hW', (trodAll_cons_mk (shut_bool Try.underlying4 _) trodAll_mk0), (trodAll_cons_mk (shut_int Try.underlying3 w0) (trodAll_cons_mk (shut_int Try.underlying3 w1) trodAll_mk0)), rfl, hg.frame _, fun h => by cases h⟩

theorem over : Rows.epochLowRow.holds Try.pinned (OpenSpec.ofChange Rows.epochLowSpec) :=
  OpenClaim.holds_of_wide 8 Try.f8 rfl rfl rfl rfl rfl rfl rfl ⟨rfl, rfl, rfl, rfl, rfl⟩ rfl rfl rfl rfl rfl (by kernel_rfl) Try.func8 (by kernel_rfl)
    (of_decide_eq_true (by kernel_rfl)) (by unfold Func.isWrapper; first | (rw [if_pos (by decide +kernel)]; kernel_rfl) | (rw [if_neg (by decide +kernel)]; exact ⟨rfl, rfl⟩))
    (fun os started H enc _ => lifted os started H enc)

theorem proved : Rows.EpochLowSaid :=
  over
end Go.Proofs.Ythacjgipdnfkcaa.epochLow

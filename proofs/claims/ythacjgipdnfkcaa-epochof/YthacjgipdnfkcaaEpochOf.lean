/-
  a slot's epoch, whether it is the epoch's first one, and an epoch's first slot, are what the document says (EpochOf is true of every input).
-/
import Derived.Test.YthacjgipdnfkcaaRows
import Derived.WalkKit
import Derived.Below
import Derived.ProofKit
import Derived.OpenShut
import Derived.ShutString
import Derived.Test.YthacjgipdnfkcaaEpAwake
namespace Go.Proofs.Ythacjgipdnfkcaa.epochOf
open Go.ChangeShapes Go.WideShapes Go.ChangeAt Go.RowKit
open Go.ChangeMaps (open_string shut_string)
set_option linter.unusedVariables false      -- a walk need not use every 'w<i>' (that an integer argument fits its kind)

theorem own : ownKnob Try.prog.godebug = none := by kernel_rfl

set_option maxHeartbeats 1000000 in
theorem walk (a0 : Int) (a1 : Int) (w0 : (Lit.int .i64 a0).wf = true) (w1 : (Lit.int .i64 a1).wf = true) (w : World) :
    Calls Try.prog 3 #[.int .i64 a0, .int .i64 a1] w fun e w' => e = .returned (.bool true) ∧ Below w.heap.size w w' := by
  have hA := wf_i64 w0
  have hB := wf_i64 w1
  clear w0 w1
  have key : (a0 < 0 ∧ epo a0 a1 = 0 ∧ firB a0 a1 = false ∧ lo0 a0 = 0) ∨ (a0 = 0 ∧ epo a0 a1 = 0 ∧ firB a0 a1 = true ∧ lo0 a0 = 0) ∨ (0 < a0 ∧ epo a0 a1 = a0 / lo1 a1 ∧ firB a0 a1 = (a0 % lo1 a1 == 0) ∧ lo0 a0 = a0) := by
    rcases Int.lt_trichotomy a0 0 with h | h | h
    · exact .inl ⟨h, by simp [epo, lo0, h], by simp [firB]; omega, by simp [lo0, h]⟩
    · subst h; exact .inr (.inl ⟨rfl, by simp [epo, lo0], by simp [firB], by simp [lo0]⟩)
    · have h' : ¬ a0 < 0 := by omega
      have h2 : 0 ≤ a0 := by omega
      exact .inr (.inr ⟨h, by simp [epo, lo0, h'], by simp [firB, h2]; rfl, by simp [lo0, h']⟩)
  have key1 : (a1 ≤ 1 ∧ lo1 a1 = 1) ∨ (1 < a1 ∧ lo1 a1 = a1) := by unfold lo1; split <;> omega
  rcases key with ⟨hs, he, hf, hl⟩ | ⟨hs, he, hf, hl⟩ | ⟨hs, he, hf, hl⟩ <;> rcases key1 with ⟨hn, hm⟩ | ⟨hn, hm⟩
  all_goals
    try subst hs
    try simp only [hm] at he hf
    go_enter Try.func3, Try.ntmps3
    go_wp2_with fail
    refine (awake_any _).mono ?_
    rintro e w1 ⟨rfl, hbel⟩
    have h2 := of_any _ a1 w1 hA hB
    have h3 := first_any _ a1 w1 hA hB
    have h4 := start_any _ a1 w1 hA hB
    rw [he] at h2
    rw [hf] at h3
    rw [hl, hm] at h4
    have H2 := hide h2
    have H3 := hide h3
    have H4 := hide h4
    clear h2 h3 h4 he hf hl hm
    go_wp2_with (first
      | (go_at_call 10; refine Calls.mono H2.out ?_; rintro e w' ⟨rfl, hw⟩; obtain rfl : _ = w' := hw.symm)
      | (go_at_call 11; refine Calls.mono H3.out ?_; rintro e w' ⟨rfl, hw⟩; obtain rfl : _ = w' := hw.symm)
      | (go_at_call 12; refine Calls.mono H4.out ?_; rintro e w' ⟨rfl, hw⟩; obtain rfl : _ = w' := hw.symm))
    go_ret
    refine ⟨?_, hbel⟩
    first | rfl | (simp; done) | (simp [IntWalk.wrap64_in, hA])
  -- go_enter Try.func3, Try.ntmps3
  -- go_wp2
  -- go_ret
  -- exact ⟨rfl, by repeat (first | exact Grown.refl _ | apply Grown.drew | apply Grown.alloc)⟩

set_option maxRecDepth 100000 in
theorem lifted (os : Os) (started : os.Started) (H : Type) (enc : TypeId × Value → H) :
    ReturnsInHanded {} Try.checked os 3 .any (Rows.epochOfSpec.pre6 enc Try.prog Try.f3 Rows.epochOfRow.domain false) (Rows.epochOfSpec.post enc Try.prog Try.f3 false true false false) := by
  refine returnsInHanded_of_change (C := Try.checked) own started (by kernel_rfl) Try.func3
    (ChangeSpec.witness6 (enc := enc) (C := Try.checked) false ⟨#[], #[.int .i64 0, .int .i64 0], []⟩ 8 (by kernel_rfl) (by kernel_rfl) (by kernel_rfl) (by kernel_rfl)) ?_
  intro W base args ds gs before hval0 hW hcnd _
  have hval : ∀ (j : Nat) t v, Try.f3.params[j]? = some t → args[j]? = some v → Value.okWide Try.prog W .any base t v := hval0
  have hW' := hW
  obtain ⟨p, q, hA0, hV, rfl, hfz, hnd⟩ := hW
  have hA : DataW.TrodAll enc Try.prog W 0 (fun _ => true) true Try.f3.params.toList args.toList ds p := hA0
  rw [Try.params3] at hA hval
  obtain ⟨v0, vs0, d0, ds0, p0, q0, hargs, rfl, rfl, h0, r0⟩ := trodAll_cons hA
  obtain ⟨v1, vs1, d1, ds1, p1, q1, rfl, rfl, rfl, h1, r1⟩ := trodAll_cons r0
  obtain ⟨rfl, rfl, rfl⟩ := trodAll_nil r1
  obtain rfl : args = #[v0, v1] := by cases args; simp_all
  obtain ⟨rfl, rfl⟩ := trodVars_none hV
  obtain ⟨a0, rfl, rfl, rfl, w0⟩ := open_int Try.underlying3 (hval 0 3 v0 rfl rfl) h0
  obtain ⟨a1, rfl, rfl, rfl, w1⟩ := open_int Try.underlying3 (hval 1 3 v1 rfl rfl) h1
  clear hA0 hval0
  refine (walk a0 a1 w0 w1 W).mono fun e W' ⟨he, hg⟩ => ?_
  subst he
  exact ⟨_, rfl, _, _, _, [], _, [], hW', (trodAll_cons_mk (shut_bool Try.underlying4 _) trodAll_mk0), (trodAll_cons_mk (shut_int Try.underlying3 w0) (trodAll_cons_mk (shut_int Try.underlying3 w1) trodAll_mk0)), rfl, hg.frame _, fun h => by cases h⟩

theorem over : Rows.epochOfRow.holds Try.pinned (OpenSpec.ofChange Rows.epochOfSpec) :=
  OpenClaim.holds_of_wide 3 Try.f3 rfl rfl rfl rfl rfl rfl rfl ⟨rfl, rfl, rfl, rfl, rfl⟩ rfl rfl rfl rfl rfl (by kernel_rfl) Try.func3 (by kernel_rfl)
    (of_decide_eq_true (by kernel_rfl)) (by unfold Func.isWrapper; first | (rw [if_pos (by decide +kernel)]; kernel_rfl) | (rw [if_neg (by decide +kernel)]; exact ⟨rfl, rfl⟩))
    (fun os started H enc _ => lifted os started H enc)

theorem proved : Rows.EpochOfSaid :=
  over
end Go.Proofs.Ythacjgipdnfkcaa.epochOf

/-
  the epochs that end between two slots are those from the first one's on, up to the second one's (EpochEnds is true of every input).
-/
import Derived.Test.YthacjgipdnfkcaaRows
import Derived.WalkKit
import Derived.Below
import Derived.ProofKit
import Derived.OpenShut
import Derived.ShutString
import Derived.Test.YthacjgipdnfkcaaEpMath
namespace Go.Proofs.Ythacjgipdnfkcaa.epochEnds
open Go.ChangeShapes Go.WideShapes Go.ChangeAt Go.RowKit
open Go.ChangeMaps (open_string shut_string)
set_option linter.unusedVariables false      -- a walk need not use every 'w<i>' (that an integer argument fits its kind)

theorem own : ownKnob Try.prog.godebug = none := by kernel_rfl

set_option maxHeartbeats 1000000 in
theorem walk (a0 : Int) (a1 : Int) (a2 : Int) (w0 : (Lit.int .u32 a0).wf = true) (w1 : (Lit.int .u32 a1).wf = true) (w2 : (Lit.int .i8 a2).wf = true) (w : World) :
    Calls Try.prog 4 #[.int .u32 a0, .int .u32 a1, .int .i8 a2] w fun e w' => e = .returned (.bool true) ∧ Below w.heap.size w w' := by
  have hE := wf_u32 w0
  have hM := wf_u32 w1
  have hS := wf_i8 w2
  clear w0 w1 w2
  obtain ⟨b, hbb⟩ : ∃ b, Hid (a0 + a1 % 20000 = b) := ⟨_, rfl⟩
  have hb : a0 ≤ b ∧ b ≤ a0 + 19999 := by have := hbb.out; omega
  have key : ∃ n x y, Hid (lo1 a2 = n) ∧ (1 ≤ n ∧ n ≤ 127) ∧ Hid (epo b a2 = x) ∧ Hid (epo a0 a2 = y) ∧ (b / n = x) ∧ (a0 / n = y) ∧ (0 ≤ y ∧ y ≤ x ∧ x ≤ y + 19999 ∧ y ≤ 4294967295) ∧ (a2 ≤ 1 ∧ n = 1 ∨ 1 < a2 ∧ n = a2) := by
    have h1 : 1 ≤ lo1 a2 ∧ lo1 a2 ≤ 127 ∧ (a2 ≤ 1 ∧ lo1 a2 = 1 ∨ 1 < a2 ∧ lo1 a2 = a2) := by unfold lo1; split <;> omega
    have e1 : epo b a2 = b / lo1 a2 := by rw [epo, lo0_in _ (by omega)]
    have e2 : epo a0 a2 = a0 / lo1 a2 := by rw [epo, lo0_in _ (by omega)]
    refine ⟨lo1 a2, b / lo1 a2, a0 / lo1 a2, rfl, ⟨h1.1, h1.2.1⟩, e1, e2, rfl, rfl, ?_, h1.2.2⟩
    have m1 := epo_mono a0 b (lo1 a2) hb.1 hE.1 h1.1
    have m2 := epo_le a0 b (lo1 a2) hb.1 hE.1 h1.1
    rw [epo_pos _ _ (by omega) h1.1, epo_pos _ _ (by omega) h1.1] at m1 m2
    exact ⟨Int.ediv_nonneg hE.1 (by omega), m1, by omega, Int.le_trans (Int.ediv_le_self _ hE.1) hE.2⟩
  obtain ⟨n, x, y, hn, hnb, hx, hy, dx, dy, hxy, hcase⟩ := key
  obtain ⟨m, hm⟩ : ∃ m : Nat, ends a0 b a2 = (m : Int) := ⟨(ends a0 b a2).toNat, by unfold ends; rw [hx.out, hy.out]; split <;> omega⟩
  have hm2 : (x - y ≤ 4096 → (m : Int) = x - y) ∧ (4096 < x - y → 4096 ≤ (m : Int)) ∧ (m : Int) ≤ 4096 := by unfold ends at hm; rw [hx.out, hy.out] at hm; split at hm <;> omega
  have hback : Hid (ends b a0 a2 ≤ 0) := by
    have h : ends b a0 a2 ≤ 0 := by unfold ends; rw [hx.out, hy.out]; split <;> omega
    exact h
  have HM := hide hm
  clear hm
  have hend : ∀ w : World, Hid (Calls Try.prog 13 #[.int .i64 a0, .int .i64 b, .int .i64 a2] w fun e w' => ∃ ao, e = .returned (.slice ao m m) ∧ RowIn .i64 w' ao m m (run y m) ∧ Below w.heap.size w w') := by
    intro w
    by_cases h0 : m = 0
    · subst h0
      refine hide ((ends_none a0 b a2 w (by omega) (by omega) (by omega) (by rw [HM.out]; omega)).mono ?_)
      rintro e w' ⟨rfl, rfl⟩
      exact ⟨none, rfl, RowIn.ofNil _ _, Below.refl _ _⟩
    · refine hide ((ends_some a0 b a2 m w (by omega) (by omega) (by omega) (by omega) HM.out).mono ?_)
      rintro e w' ⟨rfl, ho, hb⟩
      rw [hy.out] at ho
      exact ⟨_, rfl, RowIn.owned ho, hb⟩
  by_cases hd : x - y ≤ 4096 <;> rcases hcase with ⟨h1, h2⟩ | ⟨h1, h2⟩
  all_goals
    subst h2
    try simp only [Int.ediv_one] at dx dy
    try subst dx
    try subst dy
    go_enter Try.func4, Try.ntmps4
    go_wp2_with fail
    refine (awake_any _).mono ?_
    rintro e w1 ⟨rfl, hbel⟩
    go_wp2_with fail
    rw [hbb.out]
    refine Calls.mono (hend _).out ?_
    rintro e w2 ⟨ao, rfl, hrow, hbel2⟩
    have hz : (m : Int) ≤ 4096 := by omega
    have HB := hide (hbel.trans (hbel2.mono hbel.size))
    have HR := hide hrow
    clear hbel hbel2 hrow hend
    go_wp2
    go_region
    all_goals go_wp2
    all_goals
      go_loop [46] (fun i => ∃ k : Nat, k ≤ m ∧ i = .int .i64 k) (fun i => m - (intOf i).toNat)
      case atStart => exact ⟨0, Nat.zero_le _, rfl⟩
      case round =>
        obtain ⟨k, hk, rfl⟩ := hrel
        by_cases hlt : k < m
        · obtain ⟨g, off, rfl, _, hc⟩ := HR.out.cell k hlt
          rw [run_get _ _ _ hlt] at hc
          go_wp2
          go_round
          case rel => exact ⟨k + 1, by omega, by go_num⟩
          case measure => simp [intOf]; omega
        · have hkk : k = m := by omega
          subst hkk
          go_wp2_with (go_at_call 13; refine (ends_none _ _ _ _ (by omega) (by omega) (by omega) hback.out).mono ?_; rintro e w' ⟨rfl, hw⟩; obtain rfl : _ = w' := hw.symm)
          go_ret
          exact ⟨rfl, HB.out.drew⟩
  -- go_enter Try.func4, Try.ntmps4
  -- go_wp2
  -- go_ret
  -- exact ⟨rfl, by repeat (first | exact Grown.refl _ | apply Grown.drew | apply Grown.alloc)⟩

set_option maxRecDepth 100000 in
theorem lifted (os : Os) (started : os.Started) (H : Type) (enc : TypeId × Value → H) :
    ReturnsInHanded {} Try.checked os 4 .any (Rows.epochEndsSpec.pre6 enc Try.prog Try.f4 Rows.epochEndsRow.domain false) (Rows.epochEndsSpec.post enc Try.prog Try.f4 false true false false) := by
  refine returnsInHanded_of_change (C := Try.checked) own started (by kernel_rfl) Try.func4
    (ChangeSpec.witness6 (enc := enc) (C := Try.checked) false ⟨#[], #[.int .u32 0, .int .u32 0, .int .i8 0], []⟩ 8 (by kernel_rfl) (by kernel_rfl) (by kernel_rfl) (by kernel_rfl)) ?_
  intro W base args ds gs before hval0 hW hcnd _
  have hval : ∀ (j : Nat) t v, Try.f4.params[j]? = some t → args[j]? = some v → Value.okWide Try.prog W .any base t v := hval0
  have hW' := hW
  obtain ⟨p, q, hA0, hV, rfl, hfz, hnd⟩ := hW
  have hA : DataW.TrodAll enc Try.prog W 0 (fun _ => true) true Try.f4.params.toList args.toList ds p := hA0
  rw [Try.params4] at hA hval
  obtain ⟨v0, vs0, d0, ds0, p0, q0, hargs, rfl, rfl, h0, r0⟩ := trodAll_cons hA
  obtain ⟨v1, vs1, d1, ds1, p1, q1, rfl, rfl, rfl, h1, r1⟩ := trodAll_cons r0
  obtain ⟨v2, vs2, d2, ds2, p2, q2, rfl, rfl, rfl, h2, r2⟩ := trodAll_cons r1
  obtain ⟨rfl, rfl, rfl⟩ := trodAll_nil r2
  obtain rfl : args = #[v0, v1, v2] := by cases args; simp_all
  obtain ⟨rfl, rfl⟩ := trodVars_none hV
  obtain ⟨a0, rfl, rfl, rfl, w0⟩ := open_int Try.underlying25 (hval 0 25 v0 rfl rfl) h0
  obtain ⟨a1, rfl, rfl, rfl, w1⟩ := open_int Try.underlying25 (hval 1 25 v1 rfl rfl) h1
  obtain ⟨a2, rfl, rfl, rfl, w2⟩ := open_int Try.underlying26 (hval 2 26 v2 rfl rfl) h2
  clear hA0 hval0
  refine (walk a0 a1 a2 w0 w1 w2 W).mono fun e W' ⟨he, hg⟩ => ?_
  subst he
  exact ⟨_, rfl, _, _, _, [], _, [], hW', (trodAll_cons_mk (shut_bool Try.underlying4 _) trodAll_mk0), (trodAll_cons_mk (shut_int Try.underlying25 w0) (trodAll_cons_mk (shut_int Try.underlying25 w1) (trodAll_cons_mk (shut_int Try.underlying26 w2) trodAll_mk0))), rfl, hg.frame _, fun h => by cases h⟩

theorem over : Rows.epochEndsRow.holds Try.pinned (OpenSpec.ofChange Rows.epochEndsSpec) :=
  OpenClaim.holds_of_wide 4 Try.f4 rfl rfl rfl rfl rfl rfl rfl ⟨rfl, rfl, rfl, rfl, rfl⟩ rfl rfl rfl rfl rfl (by kernel_rfl) Try.func4 (by kernel_rfl)
    (of_decide_eq_true (by kernel_rfl)) (by unfold Func.isWrapper; first | (rw [if_pos (by decide +kernel)]; kernel_rfl) | (rw [if_neg (by decide +kernel)]; exact ⟨rfl, rfl⟩))
    (fun os started H enc _ => lifted os started H enc)

theorem proved : Rows.EpochEndsSaid :=
  over
end Go.Proofs.Ythacjgipdnfkcaa.epochEnds

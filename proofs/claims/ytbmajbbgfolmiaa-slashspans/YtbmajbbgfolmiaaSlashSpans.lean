/-
  two votes of unlike epochs may not both be just if one's span lies within the other's (SlashSpans is true of every input).
-/
import Derived.Test.YtbmajbbgfolmiaaRows

import Derived.WalkKit

import Derived.Below

import Derived.ProofKit

import Derived.OpenShut

import Derived.ShutString

import Derived.ChangeOld

import Derived.Test.YtbmajbbgfolmiaaSBad

import Derived.Test.YtbmajbbgfolmiaaHand

import Derived.Deep.CutRange

namespace Go.Proofs.Ytbmajbbgfolmiaa.slashSpans

open Go.ChangeShapes Go.WideShapes Go.ChangeAt Go.RowKit

set_option linter.unusedVariables false

theorem own : ownKnob Try.prog.godebug = none := by kernel_rfl
theorem laidOut : laidOutB Try.prog = true := by kernel_rfl
theorem cells4 : Try.prog.cellsOf 4 = 1 := by kernel_rfl
theorem cells5 : Try.prog.cellsOf 5 = 1 := by kernel_rfl
theorem wf8 {a : Int} (h : (Lit.int .u8 a).wf = true) : 0 ≤ a ∧ a ≤ 255 := by
  simpa [Lit.wf, IntKind.min, IntKind.max, IntKind.signed, IntKind.bits] using h
theorem rem8 {a : Int} (h : 0 ≤ a ∧ a ≤ 255) : ∃ A : Int, a.tmod 8 = A ∧ 0 ≤ A ∧ A ≤ 7 :=
  ⟨_, rfl, Int.tmod_nonneg _ h.1, by have := Int.tmod_lt_of_pos a (show (0 : Int) < 8 by omega); omega⟩
theorem bad_eq (A C T : Int) : badB 0 0 A 0 T 0 0 0 C 0 T 0 = decide (¬ A = C) := by
  simp [badB, dblB, arnB, sameB]
theorem bad_ne (A C T1 T2 : Int) (h : ¬ T1 = T2) : badB 0 0 A 0 T1 0 0 0 C 0 T2 0 = (arnB A T1 C T2 || arnB C T2 A T1) ∧ dblB 0 0 A 0 T1 0 0 0 C 0 T2 0 = false := by
  simp [badB, dblB, h]

set_option maxHeartbeats 4000000 in
set_option maxRecDepth 100000 in
theorem walk (a0 : Int) (a1 : Int) (a2 : Int) (a3 : Int) (w : World) (w0 : (Lit.int .u8 a0).wf = true) (w1 : (Lit.int .u8 a1).wf = true) (w2 : (Lit.int .u8 a2).wf = true) (w3 : (Lit.int .u8 a3).wf = true) :
    Calls Try.prog 5 #[.int .u8 a0, .int .u8 a1, .int .u8 a2, .int .u8 a3] w fun e w' => e = .returned (.bool true) ∧ Below w.heap.size w w' := by
  obtain ⟨A, hA, hA1⟩ := rem8 (wf8 w0)
  obtain ⟨B, hB, hB1⟩ := rem8 (wf8 w1)
  obtain ⟨C, hC, hC1⟩ := rem8 (wf8 w2)
  obtain ⟨D, hD, hD1⟩ := rem8 (wf8 w3)
  clear w0 w1 w2 w3
  have HA : IntKind.u8.wrap A = A := by rw [IntKind.wrap_u8]; omega
  have HB : IntKind.u8.wrap B = B := by rw [IntKind.wrap_u8]; omega
  have HC : IntKind.u8.wrap C = C := by rw [IntKind.wrap_u8]; omega
  have HD : IntKind.u8.wrap D = D := by rw [IntKind.wrap_u8]; omega
  have HA1 : IntKind.i64.wrap (A + 1) = A + 1 := by rw [IntKind.wrap_i64]; omega
  have HC1 : IntKind.i64.wrap (C + 1) = C + 1 := by rw [IntKind.wrap_i64]; omega
  obtain ⟨T1, hT1⟩ : ∃ x, A + 1 + B = x := ⟨_, rfl⟩
  obtain ⟨T2, hT2⟩ : ∃ x, C + 1 + D = x := ⟨_, rfl⟩
  have HT1 : IntKind.i64.wrap (A + 1 + B) = T1 := by rw [IntKind.wrap_i64]; omega
  have HT2 : IntKind.i64.wrap (C + 1 + D) = T2 := by rw [IntKind.wrap_i64]; omega
  have H1 := hide hT1
  have H2 := hide hT2
  clear hT1 hT2
  go_enter Try.func5, Try.ntmps5
  go_wp2_with fail
  refine (awake_any _).mono ?_
  rintro e w1 ⟨rfl, hbel⟩
  have HN := hide hbel
  clear hbel
  replace HN := hide (HN.out.alloc HN.out.size (vobj 0 0 A 0 T1 0 none 0 0))
  have HV := hide (VAt.lit w1 w1.heap.size rfl 0 0 A 0 T1 0 none 0 0)
  replace HV := hide (HV.out.alloc (vobj 0 0 C 0 T2 0 none 0 0))
  replace HN := hide (HN.out.alloc HN.out.size (vobj 0 0 C 0 T2 0 none 0 0))
  have HW := hide (VAt.lit (w1.alloc (vobj 0 0 A 0 T1 0 none 0 0)) (w1.heap.size + 1) (by simp) 0 0 C 0 T2 0 none 0 0)
  obtain ⟨w2, hw2⟩ : ∃ x, Hid ((w1.alloc (vobj 0 0 A 0 T1 0 none 0 0)).alloc (vobj 0 0 C 0 T2 0 none 0 0) = x) := ⟨_, rfl⟩
  go_upto_region 5 with fail
  rw [hw2.out] at HV HW HN ⊢
  clear hw2 HA HB HC HD HA1 HC1 HT1 HT2 hA hB hC hD
  by_cases h : T1 = T2
  · subst h
    have hbad := hide (bad_eq A C T1)
    have hbd : Hid (Below w2.heap.size w2 w2.drew) := hide (Below.refl _ _).drew
    obtain ⟨pL, p0, p1, p2, p3, p4, p5, p6⟩ := HV.out
    obtain ⟨qL, q0, q1, q2, q3, q4, q5, q6⟩ := HW.out
    have hcs : Hid (∀ w', Below w2.heap.size w2 w' → w'.cell? ⟨w1.heap.size, 0, none⟩ = some (.int .i64 0) ∧ w'.cell? ⟨w1.heap.size, 1, none⟩ = some (.int .u64 0) ∧ w'.cell? ⟨w1.heap.size, 2, none⟩ = some (.int .i64 A) ∧ w'.cell? ⟨w1.heap.size, 3, none⟩ = some (.int .u64 0) ∧ w'.cell? ⟨w1.heap.size, 4, none⟩ = some (.int .i64 T1) ∧ w'.cell? ⟨w1.heap.size, 5, none⟩ = some (.int .u64 0) ∧ w'.cell? ⟨w1.heap.size, 6, none⟩ = some (.slice none 0 0) ∧ w'.cell? ⟨w1.heap.size + 1, 0, none⟩ = some (.int .i64 0) ∧ w'.cell? ⟨w1.heap.size + 1, 1, none⟩ = some (.int .u64 0) ∧ w'.cell? ⟨w1.heap.size + 1, 2, none⟩ = some (.int .i64 C) ∧ w'.cell? ⟨w1.heap.size + 1, 3, none⟩ = some (.int .u64 0) ∧ w'.cell? ⟨w1.heap.size + 1, 4, none⟩ = some (.int .i64 T1) ∧ w'.cell? ⟨w1.heap.size + 1, 5, none⟩ = some (.int .u64 0) ∧ w'.cell? ⟨w1.heap.size + 1, 6, none⟩ = some (.slice none 0 0)) := fun w' h =>
      have V := HV.out.below h
      have K := HW.out.below h
      ⟨V.c0, V.c1, V.c2, V.c3, V.c4, V.c5, V.c6, K.c0, K.c1, K.c2, K.c3, K.c4, K.c5, K.c6⟩
    go_upto_region 6 with fail
    clear HV HW
    by_cases e : A = C
    · have e' : decide (¬ A = C) = false := by simp [e]
      subst e
      go_region_held3 (fun w' => w'.cell? ⟨w1.heap.size, 0, none⟩ = some (.int .i64 0) ∧ w'.cell? ⟨w1.heap.size, 1, none⟩ = some (.int .u64 0) ∧ w'.cell? ⟨w1.heap.size, 2, none⟩ = some (.int .i64 A) ∧ w'.cell? ⟨w1.heap.size, 3, none⟩ = some (.int .u64 0) ∧ w'.cell? ⟨w1.heap.size, 4, none⟩ = some (.int .i64 T1) ∧ w'.cell? ⟨w1.heap.size, 5, none⟩ = some (.int .u64 0) ∧ w'.cell? ⟨w1.heap.size, 6, none⟩ = some (.slice none 0 0) ∧ w'.cell? ⟨w1.heap.size + 1, 0, none⟩ = some (.int .i64 0) ∧ w'.cell? ⟨w1.heap.size + 1, 1, none⟩ = some (.int .u64 0) ∧ w'.cell? ⟨w1.heap.size + 1, 2, none⟩ = some (.int .i64 A) ∧ w'.cell? ⟨w1.heap.size + 1, 3, none⟩ = some (.int .u64 0) ∧ w'.cell? ⟨w1.heap.size + 1, 4, none⟩ = some (.int .i64 T1) ∧ w'.cell? ⟨w1.heap.size + 1, 5, none⟩ = some (.int .u64 0) ∧ w'.cell? ⟨w1.heap.size + 1, 6, none⟩ = some (.slice none 0 0))
        (exact hcs.out _ hbd.out)
        (first
          | (go_at_call 9
             refine (bad_any _ _ _ _ _ _ _ _ _ _ _ _ _ _ _ _ _ _ _).mono ?_
             rintro e w' ⟨rfl, hbel⟩
             rw [hbad.out, e']
             replace hbd := hide (hbd.out.trans (hbel.mono hbd.out.size))
             clear hbel))
      all_goals
        go_wp2
        go_ret
        exact ⟨rfl, HN.out.trans (hbd.out.mono HN.out.size)⟩
    · have e' : decide (¬ A = C) = true := by simp [e]
      go_region_held3 (fun w' => w'.cell? ⟨w1.heap.size, 0, none⟩ = some (.int .i64 0) ∧ w'.cell? ⟨w1.heap.size, 1, none⟩ = some (.int .u64 0) ∧ w'.cell? ⟨w1.heap.size, 2, none⟩ = some (.int .i64 A) ∧ w'.cell? ⟨w1.heap.size, 3, none⟩ = some (.int .u64 0) ∧ w'.cell? ⟨w1.heap.size, 4, none⟩ = some (.int .i64 T1) ∧ w'.cell? ⟨w1.heap.size, 5, none⟩ = some (.int .u64 0) ∧ w'.cell? ⟨w1.heap.size, 6, none⟩ = some (.slice none 0 0) ∧ w'.cell? ⟨w1.heap.size + 1, 0, none⟩ = some (.int .i64 0) ∧ w'.cell? ⟨w1.heap.size + 1, 1, none⟩ = some (.int .u64 0) ∧ w'.cell? ⟨w1.heap.size + 1, 2, none⟩ = some (.int .i64 C) ∧ w'.cell? ⟨w1.heap.size + 1, 3, none⟩ = some (.int .u64 0) ∧ w'.cell? ⟨w1.heap.size + 1, 4, none⟩ = some (.int .i64 T1) ∧ w'.cell? ⟨w1.heap.size + 1, 5, none⟩ = some (.int .u64 0) ∧ w'.cell? ⟨w1.heap.size + 1, 6, none⟩ = some (.slice none 0 0))
        (exact hcs.out _ hbd.out)
        (first
          | (go_at_call 9
             refine (bad_any _ _ _ _ _ _ _ _ _ _ _ _ _ _ _ _ _ _ _).mono ?_
             rintro e w' ⟨rfl, hbel⟩
             rw [hbad.out, e']
             replace hbd := hide (hbd.out.trans (hbel.mono hbd.out.size))
             clear hbel))
      all_goals
        go_wp2
        go_ret
        exact ⟨rfl, HN.out.trans (hbd.out.mono HN.out.size)⟩
  · obtain ⟨hb1, hb2⟩ := bad_ne A C T1 T2 h
    have hbad := hide hb1
    have hdbl := hide hb2
    clear hb1 hb2
    obtain ⟨v, hv⟩ : ∃ x, Hid ((arnB A T1 C T2 || arnB C T2 A T1) = x) := ⟨_, rfl⟩
    have hf : Hid (∀ b, b = (arnB A T1 C T2 || arnB C T2 A T1) → Value.bool b = Value.bool v) := fun b h => by rw [h, hv.out]
    rw [hv.out] at hbad
    obtain ⟨pL, p0, p1, p2, p3, p4, p5, p6⟩ := HV.out
    obtain ⟨qL, q0, q1, q2, q3, q4, q5, q6⟩ := HW.out
    go_upto_region 7 with fail
    go_cut [11] from 12 to 102 (fun x wx => x = Value.bool v ∧ wx = w2)
    case first =>
      by_cases e1 : A < C
      · by_cases e2 : T2 < T1
        · go_wp2
          go_meet
          exact ⟨hf.out _ (by rw [arnB, decide_eq_true ⟨e1, e2⟩]; rfl), rfl⟩
        · have e3 : ¬ C < A := by omega
          go_wp2
          go_meet
          exact ⟨hf.out _ (by rw [arnB, arnB, decide_eq_false (by omega), decide_eq_false (by omega)]; rfl), rfl⟩
      · by_cases e3 : C < A
        · by_cases e4 : T1 < T2
          · go_wp2
            go_meet
            exact ⟨hf.out _ (by rw [arnB, arnB, decide_eq_false (by omega), decide_eq_true (by omega)]; rfl), rfl⟩
          · go_wp2
            go_meet
            exact ⟨hf.out _ (by rw [arnB, arnB, decide_eq_false (by omega), decide_eq_false (by omega)]; rfl), rfl⟩
        · go_wp2
          go_meet
          exact ⟨hf.out _ (by rw [arnB, arnB, decide_eq_false (by omega), decide_eq_false (by omega)]; rfl), rfl⟩
    case rest =>
      obtain ⟨rfl, hwx⟩ := hcut
      obtain rfl : _ = wc := hwx.symm
      clear hwx
      go_wp2_with fail
      refine (bad_any _ _ _ _ _ _ _ _ _ _ _ _ _ _ _ _ _ _ _).mono ?_
      rintro e w3 ⟨rfl, hbel⟩
      rw [hbad.out]
      clear pL p0 p1 p2 p3 p4 p5 p6
      clear qL q0 q1 q2 q3 q4 q5 q6
      replace HV := hide (HV.out.below hbel)
      replace HW := hide (HW.out.below hbel)
      replace HN := hide (HN.out.trans (hbel.mono HN.out.size))
      clear hbel
      obtain ⟨pL, p0, p1, p2, p3, p4, p5, p6⟩ := HV.out
      obtain ⟨qL, q0, q1, q2, q3, q4, q5, q6⟩ := HW.out
      have hvv : (v == v) = true := by simp
      go_wp2_with fail
      refine (double_any _ _ _ _ _ _ _ _ _ _ _ _ _ _ _ _ _ _ _).mono ?_
      rintro e w4 ⟨rfl, hbel⟩
      rw [hdbl.out]
      replace HN := hide (HN.out.trans (hbel.mono HN.out.size))
      clear hbel
      go_wp2
      go_ret
      exact ⟨rfl, HN.out⟩

set_option maxRecDepth 100000 in
theorem lifted (os : Os) (started : os.Started) (H : Type) (enc : TypeId × Value → H) :
    ReturnsInHanded {} Try.checked os 5 .any (Rows.slashSpansSpec.pre6 enc Try.prog Try.f5 Rows.slashSpansRow.domain false) (Rows.slashSpansSpec.post enc Try.prog Try.f5 false true false false) := by
  refine returnsInHanded_of_change (C := Try.checked) own started (by kernel_rfl) Try.func5
    (ChangeSpec.witness6 (enc := enc) (C := Try.checked) false ⟨#[], #[.int .u8 0, .int .u8 0, .int .u8 0, .int .u8 0], []⟩ 8 (by kernel_rfl) (by kernel_rfl) (by kernel_rfl) (by kernel_rfl)) ?_
  intro W base args ds gs before hval0 hW hcnd _
  have hval : ∀ (j : Nat) t v, Try.f5.params[j]? = some t → args[j]? = some v → Value.okWide Try.prog W .any base t v := hval0
  have hW' := hW
  obtain ⟨p, q, hA0, hV, rfl, hfz, hnd⟩ := hW
  have hA : DataW.TrodAll enc Try.prog W 0 (fun _ => true) true Try.f5.params.toList args.toList ds p := hA0
  rw [Try.params5] at hA hval
  obtain ⟨v0, vs0, d0, ds0, p0, q0, hargs, rfl, rfl, h0, r0⟩ := trodAll_cons hA
  obtain ⟨v1, vs1, d1, ds1, p1, q1, rfl, rfl, rfl, h1, r1⟩ := trodAll_cons r0
  obtain ⟨v2, vs2, d2, ds2, p2, q2, rfl, rfl, rfl, h2, r2⟩ := trodAll_cons r1
  obtain ⟨v3, vs3, d3, ds3, p3, q3, rfl, rfl, rfl, h3, r3⟩ := trodAll_cons r2
  obtain ⟨rfl, rfl, rfl⟩ := trodAll_nil r3
  obtain rfl : args = #[v0, v1, v2, v3] := by cases args; simp_all
  obtain ⟨rfl, rfl⟩ := trodVars_none hV
  obtain ⟨a0, rfl, rfl, rfl, w0⟩ := open_int Try.underlying5 (hval 0 5 v0 rfl rfl) h0
  obtain ⟨a1, rfl, rfl, rfl, w1⟩ := open_int Try.underlying5 (hval 1 5 v1 rfl rfl) h1
  obtain ⟨a2, rfl, rfl, rfl, w2⟩ := open_int Try.underlying5 (hval 2 5 v2 rfl rfl) h2
  obtain ⟨a3, rfl, rfl, rfl, w3⟩ := open_int Try.underlying5 (hval 3 5 v3 rfl rfl) h3
  clear hA0 hval0
  refine (walk a0 a1 a2 a3 W w0 w1 w2 w3).mono fun e W' ⟨he, bel⟩ => ?_
  subst he
  exact ⟨_, rfl, _, _, _, [], _, [], hW', trodAll_mk1 (shut_bool Try.underlying4 _), (trodAll_cons_mk (shut_int Try.underlying5 w0) (trodAll_cons_mk (shut_int Try.underlying5 w1) (trodAll_cons_mk (shut_int Try.underlying5 w2) (trodAll_cons_mk (shut_int Try.underlying5 w3) trodAll_mk0)))), rfl, bel.frame _, fun h => by cases h⟩

theorem over : Rows.slashSpansRow.holds Try.pinned (OpenSpec.ofChange Rows.slashSpansSpec) :=
  OpenClaim.holds_of_wide 5 Try.f5 rfl rfl rfl rfl rfl rfl rfl ⟨rfl, rfl, rfl, rfl, rfl⟩ rfl rfl rfl rfl rfl (by kernel_rfl) Try.func5 (by kernel_rfl)
    (of_decide_eq_true (by kernel_rfl)) (by unfold Func.isWrapper; first | (rw [if_pos (by decide +kernel)]; kernel_rfl) | (rw [if_neg (by decide +kernel)]; exact ⟨rfl, rfl⟩))
    (fun os started H enc _ => lifted os started H enc)

theorem proved : Rows.SlashSpansSaid := over
end Go.Proofs.Ytbmajbbgfolmiaa.slashSpans

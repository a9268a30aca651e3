/-
  of one block alone that block may be the head, if it is what is final, and what is justified is of its source (ViableEmpty is true of every input).
-/
import Derived.Test.YtfkabmgbcdoijaaRows

import Derived.WalkKit

import Derived.Below

import Derived.ProofKit

import Derived.OpenShut

import Derived.ShutString

import Derived.ChangeOld

import Derived.Test.YtfkabmgbcdoijaaVbEmpty

namespace Go.Proofs.Ytfkabmgbcdoijaa.viableEmpty

open Go.ChangeShapes Go.WideShapes Go.ChangeAt Go.RowKit

set_option linter.unusedVariables false

theorem own : ownKnob Try.prog.godebug = none := by kernel_rfl
theorem laidOut : laidOutB Try.prog = true := by kernel_rfl
theorem cells4 : Try.prog.cellsOf 4 = 1 := by kernel_rfl
theorem cells5 : Try.prog.cellsOf 5 = 1 := by kernel_rfl
theorem cells29 : Try.prog.cellsOf 29 = 1 := by kernel_rfl

set_option maxRecDepth 100000 in
set_option maxHeartbeats 4000000 in
set_option maxRecDepth 100000 in
theorem walk (a0 : Int) (a1 : Int) (a2 : Int) (w : World) (w0 : (Lit.int .u64 a0).wf = true) (w1 : (Lit.int .u64 a1).wf = true) (w2 : (Lit.int .u8 a2).wf = true) :
    Calls Try.prog 8 #[.int .u64 a0, .int .u64 a1, .int .u8 a2] w fun e w' => e = .returned (.bool true) ∧ Below w.heap.size w w' := by
  have hru : U64 a0 := by have := wf_u64 w0; unfold U64; omega
  have hou : U64 a1 := by have := wf_u64 w1; unfold U64; omega
  have hn := wf_u8e w2
  clear w0 w1 w2
  have hmm := @run_makeMap Try.prog
  go_enter Try.func8, Try.ntmps8
  go_wp2_with fail
  refine (vawake_any _).mono ?_
  rintro e V1 ⟨rfl, hbel⟩
  have HB1 := hide hbel
  clear hbel
  go_wp2_with fail
  refine (of_any a0 5 V1 hru).mono ?_
  rintro e V ⟨p, rfl, hT, hbel⟩
  have HT := hide hT
  have HB := hide (HB1.out.trans (hbel.mono HB1.out.size))
  clear hT hbel HB1
  have hO := hide (tOne_ok hru (show I64 5 by unfold I64; omega))
  have hb0 := below_alloc V (.map #[] 0)
  obtain ⟨V2, hrun, hS, hgr⟩ := (MapP.new V).put a0 3 hru (by omega) (by unfold maxLen; omega)
  rw [show ((3 : Nat) : Int) = 3 from rfl] at hrun
  have hb5 : Below V.heap.size V V2 := hb0.grown hgr hb0.size (fun j hj => by cases hj; exact Nat.le_refl _)
  go_upto_region 5 with fail
  obtain ⟨mb, hmb⟩ : ∃ x, Hid (V.heap.size = x) := ⟨_, rfl⟩
  have HX := hide (OAt.new V2 (vwO 3 a0 0 a1 a2 (.map (some mb))))
  have hba := below_alloc V2 (vwO 3 a0 0 a1 a2 (.map (some mb)))
  have HS := hide (SrcAt.below (.inr ⟨mb, 1, rfl, by rw [← hmb.out]; exact hS.congr (fun r => by unfold src1; rfl)⟩ : SrcAt V2 (.map (some mb)) (src1 a0)) hba)
  replace HT := hide ((HT.out.below hb5).below hba)
  replace HB := hide (HB.out.trans ((hb5.trans (hba.mono hb5.size)).mono HB.out.size))
  clear hS hgr hb0 hb5 hba hrun
  rw [hmb.out]
  generalize V2.alloc (vwO 3 a0 0 a1 a2 (.map (some mb))) = V3 at HX HS HT HB ⊢
  generalize V2.heap.size = gx at HX ⊢
  have x0 := HX.out.cell 0
  have x1 := HX.out.cell 1
  have x2 := HX.out.cell 2
  have x3 := HX.out.cell 3
  have x4 := HX.out.cell 4
  have x5 := HX.out.cell 5
  simp only [List.getElem?_toArray, List.getElem?_cons_zero, List.getElem?_cons_succ] at x0 x1 x2 x3 x4 x5
  have HVI := hide (via_any _ _ p 3 a0 0 a1 a2 (.map (some mb)) (src1 a0) V3 HT.out hO.out hou (by unfold I64; omega) HS.out (fun r => by unfold src1; split <;> simp))
  go_upto_region 6 with (go_at_call 12; refine HVI.out.mono ?_; rintro e V4 ⟨am, rfl, hM, ham, hb5⟩; have HM := hide hM; have HB4 := hide hb5; clear hM ham hb5)
  replace HT := hide (HT.out.below HB4.out)
  replace HB := hide (HB.out.trans (HB4.out.mono HB.out.size))
  have hl := HM.out.look a0 hru
  rw [one_ok1 hO.out] at hl
  have c1 := fun ty => HM.out.count hO.out ty
  have hle := mayL_le (tOne a0 5) (okV (tOne a0 5) 3 a1 a2 (src1 a0)) (tOne a0 5).length
  rw [show (tOne a0 5).length = 1 from rfl] at hle c1
  generalize (mayL (tOne a0 5) (okV (tOne a0 5) 3 a1 a2 (src1 a0)) 1).length = N at hle c1
  have hli : (N : Int) ≤ 1 := by omega
  have hld : decide ((N : Int) ≤ 1) = true := decide_eq_true hli
  have HV2 := hide (via_any _ _ p 9 0 0 a0 12 (.map none) (fun _ => none) V4 HT.out hO.out hru (by unfold I64; omega) (.inl ⟨rfl, fun _ => rfl⟩) (fun _ => Nat.zero_le _))
  have hcn := hide (mayL_none (one_ok2 hO.out) (tOne a0 5).length)
  obtain ⟨B, hBB⟩ : ∃ B, Hid ((a0 == a1) = B) := ⟨_, rfl⟩
  have hB1 := hBB.out
  have hB2 : decide (a0 = a1) = B := by rw [← hBB.out]; by_cases h : a0 = a1 <;> simp [h]
  rw [hB1] at hl
  clear HM HX HS HVI HB4 x0 x1 x2 x3 x4 x5 hBB
  cases B
  all_goals
    go_wp2_with (go_at_call 12; refine HV2.out.mono ?_; rintro e V5 ⟨bm, rfl, hM, hbm, hb5⟩; have HE := hide (HB.out.trans (hb5.mono HB.out.size)); have c2 := fun ty => hM.count hO.out ty; rw [hcn.out] at c2; clear hM hbm hb5)
    go_ret
    exact ⟨by simp, HE.out⟩

set_option maxRecDepth 100000 in
theorem lifted (os : Os) (started : os.Started) (H : Type) (enc : TypeId × Value → H) :
    ReturnsInHanded {} Try.checked os 8 .any (Rows.viableEmptySpec.pre6 enc Try.prog Try.f8 Rows.viableEmptyRow.domain false) (Rows.viableEmptySpec.post enc Try.prog Try.f8 false true false false) := by
  refine returnsInHanded_of_change (C := Try.checked) own started (by kernel_rfl) Try.func8
    (ChangeSpec.witness6 (enc := enc) (C := Try.checked) false ⟨#[], #[.int .u64 0, .int .u64 0, .int .u8 0], []⟩ 8 (by kernel_rfl) (by kernel_rfl) (by kernel_rfl) (by kernel_rfl)) ?_
  intro W base args ds gs before hval0 hW hcnd _
  have hval : ∀ (j : Nat) t v, Try.f8.params[j]? = some t → args[j]? = some v → Value.okWide Try.prog W .any base t v := hval0
  have hW' := hW
  obtain ⟨p, q, hA0, hV, rfl, hfz, hnd⟩ := hW
  have hA : DataW.TrodAll enc Try.prog W 0 (fun _ => true) true Try.f8.params.toList args.toList ds p := hA0
  rw [Try.params8] at hA hval
  obtain ⟨v0, vs0, d0, ds0, p0, q0, hargs, rfl, rfl, h0, r0⟩ := trodAll_cons hA
  obtain ⟨v1, vs1, d1, ds1, p1, q1, rfl, rfl, rfl, h1, r1⟩ := trodAll_cons r0
  obtain ⟨v2, vs2, d2, ds2, p2, q2, rfl, rfl, rfl, h2, r2⟩ := trodAll_cons r1
  obtain ⟨rfl, rfl, rfl⟩ := trodAll_nil r2
  obtain rfl : args = #[v0, v1, v2] := by cases args; simp_all
  obtain ⟨rfl, rfl⟩ := trodVars_none hV
  obtain ⟨a0, rfl, rfl, rfl, w0⟩ := open_int Try.underlying29 (hval 0 29 v0 rfl rfl) h0
  obtain ⟨a1, rfl, rfl, rfl, w1⟩ := open_int Try.underlying29 (hval 1 29 v1 rfl rfl) h1
  obtain ⟨a2, rfl, rfl, rfl, w2⟩ := open_int Try.underlying5 (hval 2 5 v2 rfl rfl) h2
  clear hA0 hval0
  refine (walk a0 a1 a2 W w0 w1 w2).mono fun e W' ⟨he, bel⟩ => ?_
  subst he
  exact ⟨_, rfl, _, _, _, [], _, [], hW', trodAll_mk1 (shut_bool Try.underlying4 _), (trodAll_cons_mk (shut_int Try.underlying29 w0) (trodAll_cons_mk (shut_int Try.underlying29 w1) (trodAll_cons_mk (shut_int Try.underlying5 w2) trodAll_mk0))), rfl, bel.frame _, fun h => by cases h⟩

theorem over : Rows.viableEmptyRow.holds Try.pinned (OpenSpec.ofChange Rows.viableEmptySpec) :=
  OpenClaim.holds_of_wide 8 Try.f8 rfl rfl rfl rfl rfl rfl rfl ⟨rfl, rfl, rfl, rfl, rfl⟩ rfl rfl rfl rfl rfl (by kernel_rfl) Try.func8 (by kernel_rfl)
    (of_decide_eq_true (by kernel_rfl)) (by unfold Func.isWrapper; first | (rw [if_pos (by decide +kernel)]; kernel_rfl) | (rw [if_neg (by decide +kernel)]; exact ⟨rfl, rfl⟩))
    (fun os started H enc _ => lifted os started H enc)

theorem proved : Rows.ViableEmptySaid := over
end Go.Proofs.Ytfkabmgbcdoijaa.viableEmpty

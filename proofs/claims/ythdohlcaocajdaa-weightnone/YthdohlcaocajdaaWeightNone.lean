/-
  where nobody has voted, and nothing is boosted, no block has anything (WeightNone is true of every input).
-/
import Derived.Test.YthdohlcaocajdaaRows

import Derived.WalkKit

import Derived.Below

import Derived.ProofKit

import Derived.OpenShut

import Derived.ShutString

import Derived.ChangeOld

import Derived.Test.YthdohlcaocajdaaGLaw

import Derived.Test.YthdohlcaocajdaaGBest

import Derived.Test.YthdohlcaocajdaaRegG

namespace Go.Proofs.Ythdohlcaocajdaa.weightNone

open Go.ChangeShapes Go.WideShapes Go.ChangeAt Go.RowKit

set_option linter.unusedVariables false

theorem own : ownKnob Try.prog.godebug = none := by kernel_rfl
theorem laidOut : laidOutB Try.prog = true := by kernel_rfl
theorem cells3 : Try.prog.cellsOf 3 = 1 := by kernel_rfl
theorem cells4 : Try.prog.cellsOf 4 = 1 := by kernel_rfl
theorem cells5 : Try.prog.cellsOf 5 = 1 := by kernel_rfl
theorem cells22 : Try.prog.cellsOf 22 = 1 := by kernel_rfl
theorem cells24 : Try.prog.cellsOf 24 = 3 := by kernel_rfl
theorem cells25 : Try.prog.cellsOf 25 = 1 := by kernel_rfl
theorem cells37 : Try.prog.cellsOf 37 = 1 := by kernel_rfl
theorem list3 {α : Type _} {l : List α} (h : l.length = 3) : ∃ x0 x1 x2, l = [x0, x1, x2] := by
  match l, h with
  | [x0, x1, x2], _ => exact ⟨x0, x1, x2, rfl⟩

set_option maxRecDepth 100000 in
set_option maxHeartbeats 4000000 in
set_option maxRecDepth 100000 in
theorem walk (a0_0 : Option Addr) (len0_0 cap0_0 : Nat) (z0_0 : List Int) (a0_1 : Int) (a0_2 : Int) (a1 : Option Addr) (len1 cap1 : Nat) (z1 : List Int) (a2 : Int) (w : World) (w0_0 : IsRow .u64 w a0_0 len0_0 cap0_0 z0_0) (w0_1 : (Lit.int .i64 a0_1).wf = true) (w0_2 : (Lit.int .i64 a0_2).wf = true) (w1 : IsRow .u8 w a1 len1 cap1 z1) (w2 : (Lit.int .u8 a2).wf = true) :
    Calls Try.prog 8 #[.agg #[.slice a0_0 len0_0 cap0_0, .int .i64 a0_1, .int .i64 a0_2], .slice a1 len1 cap1, .int .u8 a2] w fun e w' => e = .returned (.bool true) ∧ Below w.heap.size w w' := by
  have hB := w0_0.row
  have hu := w0_0.u64
  have hs := wf_i64 w0_1
  have hb := wf_i64 w0_2
  have HNR := hide w1.row
  have HNU := hide w1.u8
  have hb2 := wf_u8e w2
  clear w2
  clear w0_0 w0_1 w0_2 w1 
  generalize z0_0.take len0_0 = b0 at *
  have HU := hide hu
  have HB := hide (hB.alloc (cfg a0_0 len0_0 cap0_0 a0_1 a0_2))
  clear hB hu
  go_enter Try.func8, Try.ntmps8
  go_wp2_with fail
  refine (awake_any _).mono ?_
  rintro e w1 ⟨rfl, hbel⟩
  have c0 : w1.cell? ⟨w.heap.size, 0, none⟩ = some (.slice a0_0 len0_0 cap0_0) := by rw [hbel.cell (p := ⟨w.heap.size, 0, none⟩) (by simp)]; simp [go_sem]
  have c1 : w1.cell? ⟨w.heap.size, 1, none⟩ = some (.int .i64 a0_1) := by rw [hbel.cell (p := ⟨w.heap.size, 1, none⟩) (by simp)]; simp [go_sem]
  have c2 : w1.cell? ⟨w.heap.size, 2, none⟩ = some (.int .i64 a0_2) := by rw [hbel.cell (p := ⟨w.heap.size, 2, none⟩) (by simp)]; simp [go_sem]
  have HB1 := hide (HB.out.below hbel)
  have HN := hide ((below_cfg w (cfg a0_0 len0_0 cap0_0 a0_1 a0_2)).trans (hbel.mono (by simp)))
  clear HB hbel
  have HMK := hide (make_any b0 _ _ _ _ _ _ HB1.out HU.out hs hb)
  go_wp2_with fail
  refine HMK.out.mono ?_
  rintro e w2 ⟨ao, d, rfl, hR, hbel⟩
  have hn := mkBs_len b0
  have hbu := mkBs_b b0
  have hSb := mkS_b a0_1
  have hBb := mkB_b a0_2
  generalize mkS a0_1 = S at *
  generalize mkB a0_2 = Bo at *
  generalize mkBs b0 = bal at *
  obtain ⟨n, hnn⟩ : ∃ n, Hid (bal.length = n) := ⟨_, rfl⟩
  rw [hnn.out] at hR hn ⊢
  have HR := hide (hR.alloc (cfg ao n d S Bo))
  have HX := hide (OAt.new w2 (cfg ao n d S Bo))
  have HB2 := hide ((HN.out.trans (hbel.mono HN.out.size)).alloc (Nat.le_trans HN.out.size hbel.size) (cfg ao n d S Bo))
  clear HMK HB1 HU HN hR hbel c0 c1 c2
  go_upto_region 4 with fail
  clear hs hb
  generalize w2.alloc (cfg ao n d S Bo) = w3 at HR HX HB2 ⊢
  generalize w2.heap.size = x at HX ⊢
  have HMD := hide (made_any _ _ _ _ w3 (HNR.out.below HB2.out) HNU.out)
  go_wp2_with fail
  refine HMD.out.mono ?_
  rintro e w4 ⟨p, sv, bs, ms, i, rfl, hM, hNb, hi3, hMo, hbel⟩
  obtain ⟨a, c, rfl, hrow⟩ := hM.row
  obtain ⟨m, hm⟩ : ∃ m, Hid (ms.length = m) := ⟨_, rfl⟩
  rw [hm.out] at hM ⊢
  have HK := hide (⟨hnn.out, hn.1, hn.2, hbu, hSb, hBb, hNb, hi3, hMo, hm.out⟩ : WC bal S Bo bs ms n m i)
  have HM := hide hM
  replace HR := hide (HR.out.below hbel)
  replace HX := hide (HX.out.below hbel)
  replace HB2 := hide (HB2.out.trans (hbel.mono HB2.out.size))
  have hn1 := hn.1
  have hn4 := hn.2
  have x0 := HX.out.cell 0
  simp only [List.getElem?_toArray, List.getElem?_cons_zero] at x0
  clear hM hbel hrow hNb hi3 hMo hm hn hbu hSb hBb hnn HMD HNR HNU
  generalize w3.heap.size = B at HM
  have hru : U64 (a2 % 33) := by unfold U64; omega
  have hd33 : a2.tmod 33 = a2 % 33 := Int.tmod_eq_emod_of_nonneg hb2.1
  have hw33 : IntKind.u64.wrap (a2 % 33) = a2 % 33 := by rw [IntKind.wrap_u64]; omega
  have h0u : U64 0 := by unfold U64; omega
  have h1u : U64 1 := by unfold U64; omega
  have hz := hide (wV_new HK.out (a2 % 33) (fresh_new n))
  have ho1 := hide (wV_own HK.out)
  obtain ⟨BT, hbt⟩ : ∃ BT, Hid (bst (tot bal) S Bo = BT) := ⟨_, rfl⟩
  rw [hbt.out] at ho1
  have hxs : Hid (∀ w', Below w4.heap.size w4 w' → w'.cell? ⟨x, 0, none⟩ = some (.slice ao n d) ∧ w'.cell? ⟨x, 1, none⟩ = some (.int .i64 S) ∧ w'.cell? ⟨x, 2, none⟩ = some (.int .i64 Bo)) := hide fun w' h => ⟨(HX.out.below h).cell 0, (HX.out.below h).cell 1, (HX.out.below h).cell 2⟩
  clear x0
  go_upto_region 5 with fail
  have HB : Hid (Below w4.heap.size w4 w4.drew) := hide (Below.refl _ _).drew
  refine wp_region_noPanic ?_
  refine wp_region_held_drew (S := fun w' => Below w4.heap.size w4 w') (by kernel_rfl) HB.out (fun hHeld => ?_)
  replace HX := hide (HX.out.below HB.out)
  replace HR := hide (HR.out.below HB.out)
  replace HM := hide (HM.out.below HB.out)
  generalize w4.drew = w0 at HB hHeld HX HR HM ⊢
  refine take_set (i := 0) (v := .agg #[.slice ao n d, .int .i64 S, .int .i64 Bo]) rfl rfl (by kernel_rfl) (by kernel_rfl) (by kernel_rfl) (fun _ _ _ h => h) (Or.inl ⟨by kernel_rfl, fun w' hSw => ?_⟩) hHeld ?_
  · have hl := hxs.out w' hSw; go_simp
  simp only [List.set_cons_succ, List.set_cons_zero]
  refine take_set (i := 1) (v := .pointer (some ⟨p, 0, none⟩)) rfl rfl (by kernel_rfl) (by kernel_rfl) (by kernel_rfl) (fun _ _ _ h => h) (Or.inl ⟨by kernel_rfl, fun w' hSw => ?_⟩) hHeld ?_
  · go_simp
  simp only [List.set_cons_succ, List.set_cons_zero]
  refine take_set (i := 2) (v := .pointer (some ⟨x, 0, none⟩)) rfl rfl (by kernel_rfl) (by kernel_rfl) (by kernel_rfl) (fun _ _ _ h => h) (Or.inl ⟨by kernel_rfl, fun w' hSw => ?_⟩) hHeld ?_
  · go_simp
  simp only [List.set_cons_succ, List.set_cons_zero]
  refine take_set (i := 3) (v := .slice ao n d) rfl rfl (by kernel_rfl) (by kernel_rfl) (by kernel_rfl) (fun _ _ _ h => h) (Or.inl ⟨by kernel_rfl, fun w' hSw => ?_⟩) hHeld ?_
  · have hl := hxs.out w' hSw; go_simp
  simp only [List.set_cons_succ, List.set_cons_zero]
  refine take_set (i := 4) (v := .int .i64 (n : Int)) rfl rfl (by kernel_rfl) (by kernel_rfl) (by kernel_rfl) (fun _ _ _ h => h) (Or.inl ⟨by kernel_rfl, fun w' hSw => ?_⟩) hHeld ?_
  · go_simp
  simp only [List.set_cons_succ, List.set_cons_zero]
  refine take_set (i := 6) (v := .int .u8 a2) rfl rfl (by kernel_rfl) (by kernel_rfl) (by kernel_rfl) (fun _ _ _ h => h) (Or.inl ⟨by kernel_rfl, fun w' hSw => ?_⟩) hHeld ?_
  · go_simp
  simp only [List.set_cons_succ, List.set_cons_zero]
  refine take_set (i := 7) (v := .int .u8 (a2 % 33)) rfl rfl (by kernel_rfl) (by kernel_rfl) (by kernel_rfl) (fun _ _ _ h => h) (Or.inl ⟨by kernel_rfl, fun w' hSw => ?_⟩) hHeld ?_
  · go_simp
  simp only [List.set_cons_succ, List.set_cons_zero]
  refine take_set (i := 8) (v := .int .u64 (a2 % 33)) rfl rfl (by kernel_rfl) (by kernel_rfl) (by kernel_rfl) (fun _ _ _ h => h) (Or.inl ⟨by kernel_rfl, fun w' hSw => ?_⟩) hHeld ?_
  · go_simp
  simp only [List.set_cons_succ, List.set_cons_zero]
  refine wpAnyH_ready (rs := [5]) (by kernel_rfl) (by simp) ?_
  refine AllReadyH.cons (o := _) rfl (fun K hK => ?_) AllReadyH.nil
  go_simp
  refine (of_ent (n : Int) w0 ⟨by omega, by omega⟩).mono ?_
  rintro e wq1 ⟨g, rfl, ho, hg, hbel⟩
  rw [show sizeE (n : Int) = n from by rw [sizeE_of _ ⟨by omega, by omega⟩]; omega] at ho ⊢
  have HW0 := WSt.start HX.out HR.out HM.out ho hg hbel hn1
  replace HX := hide (HX.out.below hbel)
  replace HR := hide (HR.out.below hbel)
  replace HM := hide (HM.out.below hbel)
  replace HB := hide (HB.out.trans (hbel.mono HB.out.size))
  have HW := hide (HW0)
  have z1 : Hid (w0.heap.size ≤ wq1.heap.size) := hide hbel.size
  clear hbel HW0 ho hg
  refine hK.out _ _ (HB.out) (fun hHeld => ?_)
  clear hK K
  refine wpAnyH_ready (rs := [9]) (by kernel_rfl) (by simp) ?_
  refine AllReadyH.cons (o := _) rfl (fun K hK => ?_) AllReadyH.nil
  go_simp
  refine (w_of HK.out h0u hru wq1 HW.out).mono ?_
  rintro e wq2 ⟨rfl, hbel⟩
  rw [hz.out]
  replace HX := hide (HX.out.below hbel)
  replace HR := hide (HR.out.below hbel)
  replace HM := hide (HM.out.below hbel)
  replace HW := hide (HW.out.below hbel)
  replace HB := hide (HB.out.trans (hbel.mono HB.out.size))
  have z2 : Hid (wq1.heap.size ≤ wq2.heap.size) := hide hbel.size
  clear hbel 
  refine hK.out _ _ (HB.out) (fun hHeld => ?_)
  clear hK K
  refine take_set (i := 10) (v := .bool true) rfl rfl (by kernel_rfl) (by kernel_rfl) (by kernel_rfl) (fun _ _ _ h => h) (Or.inl ⟨by kernel_rfl, fun w' hSw => ?_⟩) hHeld ?_
  · go_simp
  simp only [List.set_cons_succ, List.set_cons_zero]
  refine take_set (i := 11) (v := .bool true) rfl rfl (by kernel_rfl) (by kernel_rfl) (by kernel_rfl) (fun _ _ _ h => h) (Or.inl ⟨by kernel_rfl, fun w' hSw => ?_⟩) hHeld ?_
  · go_simp
  simp only [List.set_cons_succ, List.set_cons_zero]
  refine take_set (i := 12) (v := .agg #[.slice ao n d, .int .i64 S, .int .i64 Bo]) rfl rfl (by kernel_rfl) (by kernel_rfl) (by kernel_rfl) (fun _ _ _ h => h) (Or.inl ⟨by kernel_rfl, fun w' hSw => ?_⟩) hHeld ?_
  · have hl := hxs.out w' hSw; go_simp
  simp only [List.set_cons_succ, List.set_cons_zero]
  refine take_set (i := 13) (v := .pointer (some ⟨p, 0, none⟩)) rfl rfl (by kernel_rfl) (by kernel_rfl) (by kernel_rfl) (fun _ _ _ h => h) (Or.inl ⟨by kernel_rfl, fun w' hSw => ?_⟩) hHeld ?_
  · go_simp
  simp only [List.set_cons_succ, List.set_cons_zero]
  refine take_set (i := 15) (v := .agg #[.slice ao n d, .int .i64 S, .int .i64 Bo]) rfl rfl (by kernel_rfl) (by kernel_rfl) (by kernel_rfl) (fun _ _ _ h => h) (Or.inl ⟨by kernel_rfl, fun w' hSw => ?_⟩) hHeld ?_
  · have hl := hxs.out w' hSw; go_simp
  simp only [List.set_cons_succ, List.set_cons_zero]
  refine wpAnyH_ready (rs := [14]) (by kernel_rfl) (by simp) ?_
  refine AllReadyH.cons (o := _) rfl (fun K hK => ?_) AllReadyH.nil
  go_simp
  refine (w_nil HK.out h1u h1u wq2 HW.out).mono ?_
  rintro e wq3 ⟨rfl, hbel⟩
  rw [ho1.out]
  replace HX := hide (HX.out.below hbel)
  replace HR := hide (HR.out.below hbel)
  replace HM := hide (HM.out.below hbel)
  replace HW := hide (HW.out.below hbel)
  replace HB := hide (HB.out.trans (hbel.mono HB.out.size))
  have z3 : Hid (wq2.heap.size ≤ wq3.heap.size) := hide hbel.size
  clear hbel 
  refine hK.out _ _ (HB.out) (fun hHeld => ?_)
  clear hK K
  refine wpAnyH_ready (rs := [16]) (by kernel_rfl) (by simp) ?_
  refine AllReadyH.cons (o := _) rfl (fun K hK => ?_) AllReadyH.nil
  go_simp
  refine (w_boost HK.out wq3 HW.out).mono ?_
  rintro e wq4 ⟨rfl, hbel⟩
  rw [hbt.out]
  replace HX := hide (HX.out.below hbel)
  replace HR := hide (HR.out.below hbel)
  replace HM := hide (HM.out.below hbel)
  replace HW := hide (HW.out.below hbel)
  replace HB := hide (HB.out.trans (hbel.mono HB.out.size))
  have z4 : Hid (wq3.heap.size ≤ wq4.heap.size) := hide hbel.size
  clear hbel 
  refine hK.out _ _ (HB.out) (fun hHeld => ?_)
  clear hK K
  refine take_set (i := 17) (v := .bool true) rfl rfl (by kernel_rfl) (by kernel_rfl) (by kernel_rfl) (fun _ _ _ h => h) (Or.inl ⟨by kernel_rfl, fun w' hSw => ?_⟩) hHeld ?_
  · go_simp
  simp only [List.set_cons_succ, List.set_cons_zero]
  refine take_set (i := 18) (v := .bool true) rfl rfl (by kernel_rfl) (by kernel_rfl) (by kernel_rfl) (fun _ _ _ h => h) (Or.inl ⟨by kernel_rfl, fun w' hSw => ?_⟩) hHeld ?_
  · go_simp
  simp only [List.set_cons_succ, List.set_cons_zero]
  refine take_set (i := 19) (v := .bool true) rfl rfl (by kernel_rfl) (by kernel_rfl) (by kernel_rfl) (fun _ _ _ h => h) (Or.inl ⟨by kernel_rfl, fun w' hSw => ?_⟩) hHeld ?_
  · go_simp
  simp only [List.set_cons_succ, List.set_cons_zero]
  refine wpAnyH_done (by kernel_rfl) ?_ _
  refine NoPanic.normal ?_
  have HZ := hide (HB2.out.trans (HB.out.mono HB2.out.size))
  clear HB HW HX HR HM
  go_wp2
  go_ret
  exact ⟨rfl, HZ.out⟩

set_option maxRecDepth 100000 in
theorem lifted (os : Os) (started : os.Started) (H : Type) (enc : TypeId × Value → H) :
    ReturnsInHanded {} Try.checked os 8 .any (Rows.weightNoneSpec.pre6 enc Try.prog Try.f8 Rows.weightNoneRow.domain false) (Rows.weightNoneSpec.post enc Try.prog Try.f8 false true false false) := by
  refine returnsInHanded_of_change (C := Try.checked) own started (by kernel_rfl) Try.func8
    (ChangeSpec.witness6 (enc := enc) (C := Try.checked) false ⟨#[], #[.agg #[.slice none 0 0, .int .i64 0, .int .i64 0], .slice none 0 0, .int .u8 0], []⟩ 8 (by kernel_rfl) (by kernel_rfl) (by kernel_rfl) (by kernel_rfl)) ?_
  intro W base args ds gs before hval0 hW hcnd _
  have hval : ∀ (j : Nat) t v, Try.f8.params[j]? = some t → args[j]? = some v → Value.okWide Try.prog W .any base t v := hval0
  have hW' := hW
  obtain ⟨p, q, hA0, hV, rfl, hfz, hnd⟩ := hW
  have hA : DataW.TrodAll enc Try.prog W 0 (fun _ => true) true Try.f8.params.toList args.toList ds p := hA0
  rw [Try.params8] at hA hval
  obtain ⟨v0, vs0, d0, ds0, p0, q0, hargs, rfl, rfl, h0, r0⟩ := trodAll_cons hA
  obtain ⟨v1, vs1, d1, ds1, p1, q1, rfl, rfl, rfl, h1, r1⟩ := trodAll_cons r0
  obtain ⟨v2, vs2, d2, ds2, p2, q2, rfl, rfl, rfl, h2, r2⟩ := trodAll_cons r1
  obtain ⟨rfl, rfl, rfl⟩ := trodAll_nil r2
  obtain rfl : args = #[v0, v1, v2] := by cases args; simp_all
  obtain ⟨rfl, rfl⟩ := trodVars_none hV
  obtain ⟨cs0, rfl, sz0⟩ := okWide_struct Try.underlying24 (hval 0 24 v0 rfl rfl)
  rw [cells24] at sz0
  obtain ⟨l0⟩ := cs0
  obtain ⟨c0_0, c0_1, c0_2, rfl⟩ := list3 (show l0.length = 3 from sz0)
  clear sz0
  have k0 := h0
  have lt0 : ∀ x ∈ p0, x.block < W.heap.size := by obtain ⟨m, hm⟩ := k0; exact DataW.trod_lt m _ _ _ hm
  obtain ⟨fuel0, hf0⟩ := h0
  simp only [Value.cells] at hf0
  obtain ⟨xs0_0t24, n0_0t24, _, hx0_0t24, _, hlen0_0t24, hf0_0t24⟩ := DataW.trod_struct Try.underlying24 hf0
  obtain ⟨y0_0t24_0, y0_0t24_1, y0_0t24_2, rfl⟩ := list3 (show xs0_0t24.length = 3 from hlen0_0t24)
  have hy0_0t24_0 : DataW.trod enc Try.prog W 0 (fun _ => true) true n0_0t24 22 [c0_0] = some y0_0t24_0 := by simpa [Value.cells, cells3, cells4, cells5, cells22, cells24, cells25, cells37] using hf0_0t24 0 _ rfl
  have hy0_0t24_1 : DataW.trod enc Try.prog W 0 (fun _ => true) true n0_0t24 3 [c0_1] = some y0_0t24_1 := by simpa [Value.cells, cells3, cells4, cells5, cells22, cells24, cells25, cells37] using hf0_0t24 1 _ rfl
  have hy0_0t24_2 : DataW.trod enc Try.prog W 0 (fun _ => true) true n0_0t24 3 [c0_2] = some y0_0t24_2 := by simpa [Value.cells, cells3, cells4, cells5, cells22, cells24, cells25, cells37] using hf0_0t24 2 _ rfl
  obtain ⟨a0_0, len0_0, cap0_0, z0_0, e0_0, w0_0⟩ : ∃ a len cap zs, c0_0 = .slice a len cap ∧ IsRow .u64 W a len cap zs := by
    rcases open_ints Try.underlying22 Try.underlying37 (by kernel_rfl) hy0_0t24_0 with ⟨hcs, _⟩ | ⟨x, l, c, zs, hcs, _, hl, hm, hz, _, hcell, hwz⟩
    · simp at hcs
      exact ⟨none, 0, 0, [], hcs, .inl ⟨rfl, rfl, rfl, rfl⟩⟩
    · simp at hcs
      exact ⟨_, _, _, zs, hcs, .inr ⟨_, rfl, hl, hm, by simpa using hz, hcell, hwz⟩⟩
  subst e0_0
  obtain ⟨a0_1, e0_1, x0_1, w0_1⟩ := DataW.trod_int Try.underlying3 hy0_0t24_1
  simp at e0_1
  subst e0_1
  obtain ⟨a0_2, e0_2, x0_2, w0_2⟩ := DataW.trod_int Try.underlying3 hy0_0t24_2
  simp at e0_2
  subst e0_2
  obtain ⟨a1, len1, cap1, rfl⟩ := okWide_slice Try.underlying25 (hval 1 25 v1 rfl rfl)
  have k1 := h1
  have lt1 : ∀ x ∈ p1, x.block < W.heap.size := by obtain ⟨m, hm⟩ := k1; exact DataW.trod_lt m _ _ _ hm
  obtain ⟨z1, w1⟩ : ∃ zs, IsRow .u8 W a1 len1 cap1 zs := by
    obtain ⟨fuel, hf⟩ := h1
    rcases open_ints Try.underlying25 Try.underlying5 (by kernel_rfl) hf with ⟨hcs, _⟩ | ⟨x, l, c, zs, hcs, _, hl, hm, hz, _, hcell, hwz⟩
    · simp [Value.cells] at hcs
      obtain ⟨rfl, rfl, rfl⟩ := hcs
      exact ⟨[], .inl ⟨rfl, rfl, rfl, rfl⟩⟩
    · simp [Value.cells] at hcs
      obtain ⟨rfl, rfl, rfl⟩ := hcs
      exact ⟨zs, .inr ⟨_, rfl, hl, hm, by simpa using hz, hcell, hwz⟩⟩
  obtain ⟨a2, rfl, rfl, rfl, w2⟩ := open_int Try.underlying5 (hval 2 5 v2 rfl rfl) h2
  clear hA0 hval0
  refine (walk a0_0 len0_0 cap0_0 z0_0 a0_1 a0_2 a1 len1 cap1 z1 a2 W w0_0 w0_1 w0_2 w1 w2).mono fun e W' ⟨he, bel⟩ => ?_
  subst he
  exact ⟨_, rfl, _, _, _, [], _, [], hW', trodAll_mk1 (shut_bool Try.underlying4 _), (trodAll_cons_mk (Below.trod laidOut (by kernel_rfl) (of_decide_eq_true (by kernel_rfl)) k0 bel lt0) (trodAll_cons_mk (Below.trod laidOut (by kernel_rfl) (of_decide_eq_true (by kernel_rfl)) k1 bel lt1) (trodAll_cons_mk (shut_int Try.underlying5 w2) trodAll_mk0))), rfl, bel.frame _, fun h => by cases h⟩

theorem over : Rows.weightNoneRow.holds Try.pinned (OpenSpec.ofChange Rows.weightNoneSpec) :=
  OpenClaim.holds_of_wide 8 Try.f8 rfl rfl rfl rfl rfl rfl rfl ⟨rfl, rfl, rfl, rfl, rfl⟩ rfl rfl rfl rfl rfl (by kernel_rfl) Try.func8 (by kernel_rfl)
    (of_decide_eq_true (by kernel_rfl)) (by unfold Func.isWrapper; first | (rw [if_pos (by decide +kernel)]; kernel_rfl) | (rw [if_neg (by decide +kernel)]; exact ⟨rfl, rfl⟩))
    (fun os started H enc _ => lifted os started H enc)

theorem proved : Rows.WeightNoneSaid := over
end Go.Proofs.Ythdohlcaocajdaa.weightNone

/-
  a vote that is counted leaves the state that was as it was; counted twice it counts once, and two in whatever order (LedgerKeeps is true of every input).
-/
import Derived.Test.YtedpieepfbcboaaRows

import Derived.WalkKit

import Derived.Below

import Derived.ProofKit

import Derived.OpenShut

import Derived.ShutString

import Derived.ChangeOld

import Derived.Test.YtedpieepfbcboaaLAwake

import Derived.Test.YtedpieepfbcboaaLHelp2

import Derived.Test.YtedpieepfbcboaaLLaw

import Derived.Test.YtedpieepfbcboaaLMark

import Derived.Test.YtedpieepfbcboaaLFix

import Derived.Test.YtedpieepfbcboaaLVeil

import Derived.Test.YtedpieepfbcboaaLSame

import Derived.Test.YtedpieepfbcboaaEpMath

import Derived.Test.YtedpieepfbcboaaHand

namespace Go.Proofs.Ytedpieepfbcboaa.ledgerKeeps

open Go.ChangeShapes Go.WideShapes Go.ChangeAt Go.RowKit

set_option linter.unusedVariables false

theorem own : ownKnob Try.prog.godebug = none := by kernel_rfl
theorem laidOut : laidOutB Try.prog = true := by kernel_rfl
theorem cells3 : Try.prog.cellsOf 3 = 1 := by kernel_rfl
theorem cells4 : Try.prog.cellsOf 4 = 1 := by kernel_rfl
theorem cells5 : Try.prog.cellsOf 5 = 1 := by kernel_rfl
theorem cells22 : Try.prog.cellsOf 22 = 1 := by kernel_rfl
theorem cells24 : Try.prog.cellsOf 24 = 3 := by kernel_rfl
theorem cells32 : Try.prog.cellsOf 32 = 1 := by kernel_rfl
theorem cells34 : Try.prog.cellsOf 34 = 2 := by kernel_rfl
theorem cells41 : Try.prog.cellsOf 41 = 1 := by kernel_rfl
theorem cells43 : Try.prog.cellsOf 43 = 7 := by kernel_rfl
theorem list2 {α : Type _} {l : List α} (h : l.length = 2) : ∃ x0 x1, l = [x0, x1] := by
  match l, h with
  | [x0, x1], _ => exact ⟨x0, x1, rfl⟩
theorem list3 {α : Type _} {l : List α} (h : l.length = 3) : ∃ x0 x1 x2, l = [x0, x1, x2] := by
  match l, h with
  | [x0, x1, x2], _ => exact ⟨x0, x1, x2, rfl⟩
theorem list5 {α : Type _} {l : List α} (h : l.length = 5) : ∃ x0 x1 x2 x3 x4, l = [x0, x1, x2, x3, x4] := by
  match l, h with
  | [x0, x1, x2, x3, x4], _ => exact ⟨x0, x1, x2, x3, x4, rfl⟩
theorem list7 {α : Type _} {l : List α} (h : l.length = 7) : ∃ x0 x1 x2 x3 x4 x5 x6, l = [x0, x1, x2, x3, x4, x5, x6] := by
  match l, h with
  | [x0, x1, x2, x3, x4, x5, x6], _ => exact ⟨x0, x1, x2, x3, x4, x5, x6, rfl⟩
theorem whoB_mv (n : Nat) (zs : List Int) (hn : 1 ≤ n) : whoB (mvW n zs) n = true :=
  (whoB_true _ _).2 ⟨mvW_lt n zs, mem_mvW n zs hn, (mvW_len n zs hn).1⟩
theorem keep_cnt (n : Nat) (s : Int) (f : Int → Int) (p : Int) (U : List Bool) (h : Int) (who : List Int) (hs : 1 ≤ s) (hw : whoB who n = true) (hf : f (stI 0 s) = p) :
    cntB n s f ⟨JS.first p, 0, List.replicate n false, U⟩ ⟨0, h, 0, p, 0, p, who⟩ = true ∧ cntS n s f ⟨JS.first p, 0, List.replicate n false, U⟩ ⟨0, h, 0, p, 0, p, who⟩ = ⟨JS.first p, 0, List.replicate n false, mark U who⟩ := by
  have := cnt_fix n s f ⟨JS.first p, 0, List.replicate n false, U⟩ h who rfl rfl hs hw
  rw [hf] at this
  exact this

set_option maxRecDepth 100000 in
set_option maxHeartbeats 16000000 in
set_option maxRecDepth 100000 in
theorem walk (a0_0 : Option Addr) (len0_0 cap0_0 : Nat) (z0_0 : List Int) (a0_1 : Int) (a0_2 : Int) (a1 : Int) (a2_0 : Int) (a2_1 : Int) (a2_2 : Int) (a2_3 : Int) (a2_4 : Int) (a2_5 : Int) (a2_6 : Option Addr) (len2_6 cap2_6 : Nat) (z2_6 : List Int) (a3_0 : Int) (a3_1 : Int) (a3_2 : Int) (a3_3 : Int) (a3_4 : Int) (a3_5 : Int) (a3_6 : Option Addr) (len3_6 cap3_6 : Nat) (z3_6 : List Int) (w : World) (w0_0 : IsRow .u64 w a0_0 len0_0 cap0_0 z0_0) (w0_1 : (Lit.int .i64 a0_1).wf = true) (w0_2 : (Lit.int .i64 a0_2).wf = true) (w1 : (Lit.int .u8 a1).wf = true) (w2_0 : (Lit.int .i64 a2_0).wf = true) (w2_1 : (Lit.int .u64 a2_1).wf = true) (w2_2 : (Lit.int .i64 a2_2).wf = true) (w2_3 : (Lit.int .u64 a2_3).wf = true) (w2_4 : (Lit.int .i64 a2_4).wf = true) (w2_5 : (Lit.int .u64 a2_5).wf = true) (w2_6 : IsRow .i64 w a2_6 len2_6 cap2_6 z2_6) (w3_0 : (Lit.int .i64 a3_0).wf = true) (w3_1 : (Lit.int .u64 a3_1).wf = true) (w3_2 : (Lit.int .i64 a3_2).wf = true) (w3_3 : (Lit.int .u64 a3_3).wf = true) (w3_4 : (Lit.int .i64 a3_4).wf = true) (w3_5 : (Lit.int .u64 a3_5).wf = true) (w3_6 : IsRow .i64 w a3_6 len3_6 cap3_6 z3_6) :
    Calls Try.prog 4 #[.agg #[.slice a0_0 len0_0 cap0_0, .int .i64 a0_1, .int .i64 a0_2], .int .u8 a1, .agg #[.int .i64 a2_0, .int .u64 a2_1, .int .i64 a2_2, .int .u64 a2_3, .int .i64 a2_4, .int .u64 a2_5, .slice a2_6 len2_6 cap2_6], .agg #[.int .i64 a3_0, .int .u64 a3_1, .int .i64 a3_2, .int .u64 a3_3, .int .i64 a3_4, .int .u64 a3_5, .slice a3_6 len3_6 cap3_6]] w fun e w' => e = .returned (.bool true) ∧ Below w.heap.size w w' := by
  have hcb := wf_u8 w1
  have hz2 := w2_6.row
  have hz3 := w3_6.row
  have hv20 := wf_i64 w2_0
  have hv21 := wf_u64 w2_1
  have hv22 := wf_i64 w2_2
  have hv23 := wf_u64 w2_3
  have hv25 := wf_u64 w2_5
  have hv30 := wf_i64 w3_0
  have hv31 := wf_u64 w3_1
  have hv32 := wf_i64 w3_2
  have hv33 := wf_u64 w3_3
  have hv35 := wf_u64 w3_5
  clear w1 w2_0 w2_1 w2_2 w2_3 w2_4 w2_5 w2_6 w3_0 w3_1 w3_2 w3_3 w3_4 w3_5 w3_6
  generalize z2_6.take len2_6 = zs2 at *
  generalize z3_6.take len3_6 = zs3 at *
  have HZ2 := hide (((hz2.alloc (cfg a0_0 len0_0 cap0_0 a0_1 a0_2)).alloc (vobj a2_0 a2_1 a2_2 a2_3 a2_4 a2_5 a2_6 len2_6 cap2_6)).alloc (vobj a3_0 a3_1 a3_2 a3_3 a3_4 a3_5 a3_6 len3_6 cap3_6))
  have HZ3 := hide (((hz3.alloc (cfg a0_0 len0_0 cap0_0 a0_1 a0_2)).alloc (vobj a2_0 a2_1 a2_2 a2_3 a2_4 a2_5 a2_6 len2_6 cap2_6)).alloc (vobj a3_0 a3_1 a3_2 a3_3 a3_4 a3_5 a3_6 len3_6 cap3_6))
  have HV2 := hide ((OAt.new (w.alloc (cfg a0_0 len0_0 cap0_0 a0_1 a0_2)) (vobj a2_0 a2_1 a2_2 a2_3 a2_4 a2_5 a2_6 len2_6 cap2_6)).alloc (vobj a3_0 a3_1 a3_2 a3_3 a3_4 a3_5 a3_6 len3_6 cap3_6))
  have HV3 := hide (OAt.new ((w.alloc (cfg a0_0 len0_0 cap0_0 a0_1 a0_2)).alloc (vobj a2_0 a2_1 a2_2 a2_3 a2_4 a2_5 a2_6 len2_6 cap2_6)) (vobj a3_0 a3_1 a3_2 a3_3 a3_4 a3_5 a3_6 len3_6 cap3_6))
  simp only [World.size_alloc] at HV2 HV3
  clear hz2 hz3
  have hB0 := w0_0.row
  have hu0 := w0_0.u64
  have hs0 := wf_i64 w0_1
  have hb0 := wf_i64 w0_2
  clear w0_0 w0_1 w0_2
  generalize z0_0.take len0_0 = bs0 at *
  have HB0 := hide (((hB0.alloc (cfg a0_0 len0_0 cap0_0 a0_1 a0_2)).alloc (vobj a2_0 a2_1 a2_2 a2_3 a2_4 a2_5 a2_6 len2_6 cap2_6)).alloc (vobj a3_0 a3_1 a3_2 a3_3 a3_4 a3_5 a3_6 len3_6 cap3_6))
  have HU0 := hide hu0
  have HC0 := hide (((OAt.new w (cfg a0_0 len0_0 cap0_0 a0_1 a0_2)).alloc (vobj a2_0 a2_1 a2_2 a2_3 a2_4 a2_5 a2_6 len2_6 cap2_6)).alloc (vobj a3_0 a3_1 a3_2 a3_3 a3_4 a3_5 a3_6 len3_6 cap3_6))
  have HN0 := hide ((((Below.refl _ w).alloc (Nat.le_refl _) (cfg a0_0 len0_0 cap0_0 a0_1 a0_2)).alloc (by simp) (vobj a2_0 a2_1 a2_2 a2_3 a2_4 a2_5 a2_6 len2_6 cap2_6)).alloc (by simp; omega) (vobj a3_0 a3_1 a3_2 a3_3 a3_4 a3_5 a3_6 len3_6 cap3_6))
  clear hB0 hu0
  have hSb := mkS_b a0_1
  have hnb := mkBs_len bs0
  have hub := mkBs_b bs0
  obtain ⟨S, hS⟩ : ∃ x, Hid (mkS a0_1 = x) := ⟨_, rfl⟩
  obtain ⟨B, hB⟩ : ∃ x, Hid (mkB a0_2 = x) := ⟨_, rfl⟩
  obtain ⟨bs, hbs⟩ : ∃ x, Hid (mkBs bs0 = x) := ⟨_, rfl⟩
  rw [hS.out] at hSb
  rw [hbs.out] at hnb hub
  obtain ⟨n, hn⟩ : ∃ x, bs.length = x := ⟨_, rfl⟩
  rw [hn] at hnb
  have hn0 : 0 < n ∧ n ≤ 4096 := by omega
  have hSi : I64s S := by unfold I64s; omega
  have hu : Hid (∀ z ∈ bs, 0 ≤ z ∧ z ≤ 18446744073709551615) := hide (fun z hz => by have := hub z hz; omega)
  clear hub
  go_enter Try.func4, Try.ntmps4
  go_wp2_with fail
  refine (awake_any _).mono ?_
  rintro e w1 ⟨rfl, hbel⟩
  have HB1 := hide (HB0.out.below hbel)
  have HC1 := hide (HC0.out.below hbel)
  have HN1 := hide (HN0.out.trans (hbel.mono (by simp; omega)))
  replace HV2 := hide (HV2.out.below hbel)
  replace HV3 := hide (HV3.out.below hbel)
  replace HZ2 := hide (HZ2.out.below hbel)
  replace HZ3 := hide (HZ3.out.below hbel)
  clear HB0 HC0 HN0 hbel
  have p0 := HC1.out.cell 0
  have p1 := HC1.out.cell 1
  have p2 := HC1.out.cell 2
  simp only [List.getElem?_toArray, List.getElem?_cons_zero, List.getElem?_cons_succ] at p0 p1 p2
  go_wp2_with fail
  refine (make_any bs0 _ _ _ _ _ _ HB1.out HU0.out hs0 hb0).mono ?_
  rintro e w2 ⟨ao, d, rfl, hR, hbel⟩
  rw [hS.out, hB.out, hbs.out, hn]
  rw [hbs.out, hn] at hR
  have HR := hide (hR.alloc (cfg ao n d S B))
  have HRF := hide (hR.far hn0.1)
  have HX := hide (OAt.new w2 (cfg ao n d S B))
  have HN := hide ((HN1.out.trans (hbel.mono HN1.out.size)).alloc (by have := HN1.out.size; have := hbel.size; omega) (cfg ao n d S B))
  replace HV2 := hide ((HV2.out.below hbel).alloc (cfg ao n d S B))
  replace HV3 := hide ((HV3.out.below hbel).alloc (cfg ao n d S B))
  replace HZ2 := hide ((HZ2.out.below hbel).alloc (cfg ao n d S B))
  replace HZ3 := hide ((HZ3.out.below hbel).alloc (cfg ao n d S B))
  have hcg : Hid (w.heap.size < w2.heap.size) := Nat.lt_of_lt_of_le HC1.out.lt hbel.size
  clear HB1 HC1 HN1 hbel p0 p1 p2 hR
  go_upto_region 4 with fail
  generalize hW : w2.alloc (cfg ao n d S B) = W at HR HX HN HV2 HV3 HZ2 HZ3
  have hWs : W.heap.size = w2.heap.size + 1 := by rw [← hW]; simp
  clear hW
  obtain ⟨hc, hhc⟩ : ∃ x, Hid (w2.heap.size = x) := ⟨_, rfl⟩
  rw [hhc.out] at HX HRF hWs hcg ⊢
  have hxs : Hid (∀ w', Below W.heap.size W w' → w'.cell? ⟨hc, 0, none⟩ = some (.slice ao n d) ∧ w'.cell? ⟨hc, 1, none⟩ = some (.int .i64 S) ∧ w'.cell? ⟨hc, 2, none⟩ = some (.int .i64 B)) := fun w' h => by
    have V := HX.out.below h
    exact ⟨V.cell 0, V.cell 1, V.cell 2⟩
  go_wp2_with fail
  refine (chain_any a1 hcb W).mono ?_
  rintro ek W1 ⟨cap, rfl, hch, hbel⟩
  have hW1 := hbel.size
  have hal : Hid (W1.heap.size < (W1.alloc (.cells #[chv 36 cap] 29)).heap.size) := hide (by simp)
  have HAv := hide (OAt.new W1 (.cells #[chv 36 cap] 29))
  have hb2 := hbel.alloc (Nat.le_trans (Nat.le_refl _) hbel.size) (.cells #[chv 36 cap] 29)
  have HCH := hide (hch.alloc (.cells #[chv 36 cap] 29))
  replace HX := hide (HX.out.below hb2)
  replace HR := hide (HR.out.below hb2)
  replace HV2 := hide (HV2.out.below hb2)
  replace HV3 := hide (HV3.out.below hb2)
  replace HZ2 := hide (HZ2.out.below hb2)
  replace HZ3 := hide (HZ3.out.below hb2)
  replace HN := hide (HN.out.trans (hb2.mono HN.out.size))
  clear hch hbel hxs hb2
  go_upto_region 5 with fail
  generalize W1.alloc (.cells #[chv 36 cap] 29) = V at *
  obtain ⟨ga, hga⟩ : ∃ x, Hid (W1.heap.size = x) := ⟨_, rfl⟩
  rw [hga.out] at hal HAv hW1 ⊢
  have hcga : hc < ga := by omega
  have hgaV : ga < V.heap.size := hal.out
  clear hga hal
  have hen : Enters 36 := enters_law
  unfold Enters at hen
  obtain ⟨f, hf⟩ : ∃ x, Hid (chf a1 = x) := ⟨_, rfl⟩
  rw [hf.out] at HCH
  clear hf
  obtain ⟨p, hp⟩ : ∃ y, Hid (f 0 = y) := ⟨_, rfl⟩
  have hi0 : I64s 0 := by unfold I64s; omega
  have hst0 : Hid (f (stI 0 S) = p) := by
    rw [← hp.out, show stI 0 S = 0 from by unfold stI lo0; simp [wrap64]]
    exact hide rfl
  have hxs : Hid (∀ w', Below V.heap.size V w' → w'.cell? ⟨hc, 0, none⟩ = some (.slice ao n d) ∧ w'.cell? ⟨hc, 1, none⟩ = some (.int .i64 S) ∧ w'.cell? ⟨hc, 2, none⟩ = some (.int .i64 B) ∧ w'.cell? ⟨ga, 0, none⟩ = some (chv 36 cap)) := fun w' h => by
    have X := HX.out.below h
    have A := HAv.out.below h
    exact ⟨X.cell 0, X.cell 1, X.cell 2, A.cell 0⟩
  go_cut [11] from 29 to 32 (fun x wx => ∃ g g1 g2, x = Value.pointer (some ⟨g, 0, none⟩) ∧ Hid (OAt wx g (lobj (JS.first p) 0 (some ⟨g1, 0, none⟩) n n (some ⟨g2, 0, none⟩) n n) ∧ RowB wx (some ⟨g1, 0, none⟩) n n (List.replicate n false) ∧ RowB wx (some ⟨g2, 0, none⟩) n n (List.replicate n false) ∧ V.heap.size ≤ g ∧ Below V.heap.size V wx))
  case first =>
    have HB : Hid (Below V.heap.size V V.drew) := hide (Below.refl _ _).drew
    refine wp_region_noPanic ?_
    refine wp_region_held_drew (S := fun w' => Below V.heap.size V w') (by kernel_rfl) HB.out (fun hHeld => ?_)
    replace HCH := hide (HCH.out.below HB.out)
    generalize V.drew = w0 at HB hHeld HCH ⊢
    refine take_set (i := 0) (v := .agg #[.slice ao n d, .int .i64 S, .int .i64 B]) rfl rfl (by kernel_rfl) (by kernel_rfl) (by kernel_rfl) (fun _ _ _ h => h) (Or.inl ⟨by kernel_rfl, fun w' hSw => ?_⟩) hHeld ?_
    · have hl := hxs.out w' hSw; go_simp
    simp only [List.set_cons_succ, List.set_cons_zero]
    refine take_set (i := 1) (v := chv 36 cap) rfl rfl (by kernel_rfl) (by kernel_rfl) (by kernel_rfl) (fun _ _ _ h => h) (Or.inl ⟨by kernel_rfl, fun w' hSw => ?_⟩) hHeld ?_
    · have hl := hxs.out w' hSw; go_simp
    simp only [List.set_cons_succ, List.set_cons_zero]
    refine wpAnyH_ready (rs := [2, 4]) (by kernel_rfl) (by simp) ?_
    refine AllReadyH.cons (o := _) rfl (fun K hK => ?_) (AllReadyH.cons (o := _) rfl (fun K hK => ?_) (AllReadyH.nil))
    · go_simp
      refine (HCH.out _ _ (Below.refl _ _) hi0).mono ?_
      rintro x wq1 ⟨hx, hw0⟩
      rw [hp.out] at hx
      subst hx
      have hbel : Below w0.heap.size w0 wq1 := by rw [hw0]; exact Below.refl _ _
      clear hw0
      replace HCH := hide (HCH.out.below hbel)
      replace HB := hide (HB.out.trans (hbel.mono HB.out.size))
      have z1 : Hid (w0.heap.size ≤ wq1.heap.size) := hide hbel.size
      clear hbel 
      refine hK.out _ _ (HB.out) (fun hHeld => ?_)
      clear hK K
      refine wpAnyH_ready (rs := [3, 4]) (by kernel_rfl) (by simp) ?_
      refine AllReadyH.cons (o := _) rfl (fun K hK => ?_) (AllReadyH.cons (o := _) rfl (fun K hK => ?_) (AllReadyH.nil))
      · go_simp
        refine (open_led ao n d S B p wq1 hn0.2).mono ?_
        rintro eo wq2 ⟨g1, g2, rfl, o1, o2, l12, l1, hbel⟩
        replace HCH := hide (HCH.out.below hbel)
        replace HB := hide (HB.out.trans (hbel.mono HB.out.size))
        have R1 := hide (RowB.obj (n := n) o1 (by simp) (by unfold maxLen; omega))
        have R2 := hide (RowB.obj (n := n) o2 (by simp) (by unfold maxLen; omega))
        have z2 : Hid (wq1.heap.size ≤ wq2.heap.size) := hide hbel.size
        have P12 : Hid (wq1.heap.size ≤ g1 ∧ g1 < g2 ∧ g2 < wq2.heap.size) := hide ⟨l1, l12, o2.lt⟩
        clear hbel o1 o2 l12 l1
        refine hK.out _ _ (HB.out) (fun hHeld => ?_)
        clear hK K
        have hbel := below_alloc wq2 (lobj jz 0 none 0 0 none 0 0)
        have HT := hide (OAt.new wq2 (lobj jz 0 none 0 0 none 0 0))
        refine wpAnyH_ready (rs := [4]) (by kernel_rfl) (by simp) ?_
        refine AllReadyH.cons (o := _) rfl (fun K hK => ?_) AllReadyH.nil
        go_simp
        refine hK.out _ _ (HB.out.trans (hbel.mono HB.out.size)) (fun hHeld => ?_)
        clear hK K
        have z3 : Hid ((wq2.alloc (lobj jz 0 none 0 0 none 0 0)).heap.size = wq2.heap.size + 1) := hide (by simp)
        generalize wq2.alloc (lobj jz 0 none 0 0 none 0 0) = wq3 at hbel HT hHeld z3 ⊢
        replace HCH := hide (HCH.out.below hbel)
        replace R1 := hide (R1.out.below hbel)
        replace R2 := hide (R2.out.below hbel)
        have HTs : Hid (V.heap.size ≤ wq2.heap.size) := hide HB.out.size
        replace HB := hide (HB.out.trans (hbel.mono HB.out.size))
        clear hbel
        obtain ⟨gT, gTe⟩ : ∃ x, Hid (wq2.heap.size = x) := ⟨_, rfl⟩
        rw [gTe.out] at HT HTs ⊢
        refine wpAnyH_ready (rs := [5]) (by kernel_rfl) (by simp) ?_
        refine AllReadyH.cons (o := _) rfl (fun K hK => ?_) AllReadyH.nil
        obtain ⟨wq4, hrun, hoS, haS⟩ := store_obj (P := Try.prog) (ty := 39) (n := 13) (cs := (lcells (JS.first p) 0 (some ⟨g1, 0, none⟩) n n (some ⟨g2, 0, none⟩) n n).toList) infoLS rfl rfl (lcells_one _ _ _ _ _ _ _ _) HT.out.at_
        have y1 := z1.out
        have y2 := z2.out
        have y3 := z3.out
        have yT := HTs.out
        have yg := gTe.out
        have yp := P12.out
        refine step_store_at 39 (.tmp 11) (.tmp 32) rfl rfl _ _ rfl rfl wq4 hrun ?_
        have HG := hide ((show OAt wq4 gT (lobj (JS.first p) 0 (some ⟨g1, 0, none⟩) n n (some ⟨g2, 0, none⟩) n n) from OAt.of hoS))
        have K1 := hide (R1.out.aside haS (fun b off e => by cases e; omega))
        have K2 := hide (R2.out.aside haS (fun b off e => by cases e; omega))
        have HBB := hide (HB.out.trans (haS.old _ HB.out.size (by omega)))
        refine hK.out _ _ ((HB.out.trans (haS.old _ HB.out.size (by omega)))) (fun hHeld => ?_)
        clear hK K
        refine wpAnyH_done (by kernel_rfl) ?_ _
        refine NoPanic.normal ?_
        go_wp2
        go_meet
        exact ⟨gT, g1, g2, rfl, hide ⟨HG.out, K1.out, K2.out, HTs.out, HBB.out⟩⟩
      · have hbel := below_alloc wq1 (lobj jz 0 none 0 0 none 0 0)
        have HT := hide (OAt.new wq1 (lobj jz 0 none 0 0 none 0 0))
        go_simp
        refine hK.out _ _ (HB.out.trans (hbel.mono HB.out.size)) (fun hHeld => ?_)
        clear hK K
        have z2 : Hid ((wq1.alloc (lobj jz 0 none 0 0 none 0 0)).heap.size = wq1.heap.size + 1) := hide (by simp)
        generalize wq1.alloc (lobj jz 0 none 0 0 none 0 0) = wq2 at hbel HT hHeld z2 ⊢
        replace HCH := hide (HCH.out.below hbel)
        have HTs : Hid (V.heap.size ≤ wq1.heap.size) := hide HB.out.size
        replace HB := hide (HB.out.trans (hbel.mono HB.out.size))
        clear hbel
        obtain ⟨gT, gTe⟩ : ∃ x, Hid (wq1.heap.size = x) := ⟨_, rfl⟩
        rw [gTe.out] at HT HTs ⊢
        refine wpAnyH_ready (rs := [3]) (by kernel_rfl) (by simp) ?_
        refine AllReadyH.cons (o := _) rfl (fun K hK => ?_) AllReadyH.nil
        go_simp
        refine (open_led ao n d S B p wq2 hn0.2).mono ?_
        rintro eo wq3 ⟨g1, g2, rfl, o1, o2, l12, l1, hbel⟩
        replace HCH := hide (HCH.out.below hbel)
        replace HT := hide (HT.out.below hbel)
        replace HB := hide (HB.out.trans (hbel.mono HB.out.size))
        have R1 := hide (RowB.obj (n := n) o1 (by simp) (by unfold maxLen; omega))
        have R2 := hide (RowB.obj (n := n) o2 (by simp) (by unfold maxLen; omega))
        have z3 : Hid (wq2.heap.size ≤ wq3.heap.size) := hide hbel.size
        have P12 : Hid (wq2.heap.size ≤ g1 ∧ g1 < g2 ∧ g2 < wq3.heap.size) := hide ⟨l1, l12, o2.lt⟩
        clear hbel o1 o2 l12 l1
        refine hK.out _ _ (HB.out) (fun hHeld => ?_)
        clear hK K
        refine wpAnyH_ready (rs := [5]) (by kernel_rfl) (by simp) ?_
        refine AllReadyH.cons (o := _) rfl (fun K hK => ?_) AllReadyH.nil
        obtain ⟨wq4, hrun, hoS, haS⟩ := store_obj (P := Try.prog) (ty := 39) (n := 13) (cs := (lcells (JS.first p) 0 (some ⟨g1, 0, none⟩) n n (some ⟨g2, 0, none⟩) n n).toList) infoLS rfl rfl (lcells_one _ _ _ _ _ _ _ _) HT.out.at_
        have y1 := z1.out
        have y2 := z2.out
        have y3 := z3.out
        have yT := HTs.out
        have yg := gTe.out
        have yp := P12.out
        refine step_store_at 39 (.tmp 11) (.tmp 32) rfl rfl _ _ rfl rfl wq4 hrun ?_
        have HG := hide ((show OAt wq4 gT (lobj (JS.first p) 0 (some ⟨g1, 0, none⟩) n n (some ⟨g2, 0, none⟩) n n) from OAt.of hoS))
        have K1 := hide (R1.out.aside haS (fun b off e => by cases e; omega))
        have K2 := hide (R2.out.aside haS (fun b off e => by cases e; omega))
        have HBB := hide (HB.out.trans (haS.old _ HB.out.size (by omega)))
        refine hK.out _ _ ((HB.out.trans (haS.old _ HB.out.size (by omega)))) (fun hHeld => ?_)
        clear hK K
        refine wpAnyH_done (by kernel_rfl) ?_ _
        refine NoPanic.normal ?_
        go_wp2
        go_meet
        exact ⟨gT, g1, g2, rfl, hide ⟨HG.out, K1.out, K2.out, HTs.out, HBB.out⟩⟩
    · have hbel := below_alloc w0 (lobj jz 0 none 0 0 none 0 0)
      have HT := hide (OAt.new w0 (lobj jz 0 none 0 0 none 0 0))
      go_simp
      refine hK.out _ _ (HB.out.trans (hbel.mono HB.out.size)) (fun hHeld => ?_)
      clear hK K
      have z1 : Hid ((w0.alloc (lobj jz 0 none 0 0 none 0 0)).heap.size = w0.heap.size + 1) := hide (by simp)
      generalize w0.alloc (lobj jz 0 none 0 0 none 0 0) = wq1 at hbel HT hHeld z1 ⊢
      replace HCH := hide (HCH.out.below hbel)
      have HTs : Hid (V.heap.size ≤ w0.heap.size) := hide HB.out.size
      replace HB := hide (HB.out.trans (hbel.mono HB.out.size))
      clear hbel
      obtain ⟨gT, gTe⟩ : ∃ x, Hid (w0.heap.size = x) := ⟨_, rfl⟩
      rw [gTe.out] at HT HTs ⊢
      refine wpAnyH_ready (rs := [2]) (by kernel_rfl) (by simp) ?_
      refine AllReadyH.cons (o := _) rfl (fun K hK => ?_) AllReadyH.nil
      go_simp
      refine (HCH.out _ _ (Below.refl _ _) hi0).mono ?_
      rintro x wq2 ⟨hx, hw0⟩
      rw [hp.out] at hx
      subst hx
      have hbel : Below wq1.heap.size wq1 wq2 := by rw [hw0]; exact Below.refl _ _
      clear hw0
      replace HCH := hide (HCH.out.below hbel)
      replace HT := hide (HT.out.below hbel)
      replace HB := hide (HB.out.trans (hbel.mono HB.out.size))
      have z2 : Hid (wq1.heap.size ≤ wq2.heap.size) := hide hbel.size
      clear hbel 
      refine hK.out _ _ (HB.out) (fun hHeld => ?_)
      clear hK K
      refine wpAnyH_ready (rs := [3]) (by kernel_rfl) (by simp) ?_
      refine AllReadyH.cons (o := _) rfl (fun K hK => ?_) AllReadyH.nil
      go_simp
      refine (open_led ao n d S B p wq2 hn0.2).mono ?_
      rintro eo wq3 ⟨g1, g2, rfl, o1, o2, l12, l1, hbel⟩
      replace HCH := hide (HCH.out.below hbel)
      replace HT := hide (HT.out.below hbel)
      replace HB := hide (HB.out.trans (hbel.mono HB.out.size))
      have R1 := hide (RowB.obj (n := n) o1 (by simp) (by unfold maxLen; omega))
      have R2 := hide (RowB.obj (n := n) o2 (by simp) (by unfold maxLen; omega))
      have z3 : Hid (wq2.heap.size ≤ wq3.heap.size) := hide hbel.size
      have P12 : Hid (wq2.heap.size ≤ g1 ∧ g1 < g2 ∧ g2 < wq3.heap.size) := hide ⟨l1, l12, o2.lt⟩
      clear hbel o1 o2 l12 l1
      refine hK.out _ _ (HB.out) (fun hHeld => ?_)
      clear hK K
      refine wpAnyH_ready (rs := [5]) (by kernel_rfl) (by simp) ?_
      refine AllReadyH.cons (o := _) rfl (fun K hK => ?_) AllReadyH.nil
      obtain ⟨wq4, hrun, hoS, haS⟩ := store_obj (P := Try.prog) (ty := 39) (n := 13) (cs := (lcells (JS.first p) 0 (some ⟨g1, 0, none⟩) n n (some ⟨g2, 0, none⟩) n n).toList) infoLS rfl rfl (lcells_one _ _ _ _ _ _ _ _) HT.out.at_
      have y1 := z1.out
      have y2 := z2.out
      have y3 := z3.out
      have yT := HTs.out
      have yg := gTe.out
      have yp := P12.out
      refine step_store_at 39 (.tmp 11) (.tmp 32) rfl rfl _ _ rfl rfl wq4 hrun ?_
      have HG := hide ((show OAt wq4 gT (lobj (JS.first p) 0 (some ⟨g1, 0, none⟩) n n (some ⟨g2, 0, none⟩) n n) from OAt.of hoS))
      have K1 := hide (R1.out.aside haS (fun b off e => by cases e; omega))
      have K2 := hide (R2.out.aside haS (fun b off e => by cases e; omega))
      have HBB := hide (HB.out.trans (haS.old _ HB.out.size (by omega)))
      refine hK.out _ _ ((HB.out.trans (haS.old _ HB.out.size (by omega)))) (fun hHeld => ?_)
      clear hK K
      refine wpAnyH_done (by kernel_rfl) ?_ _
      refine NoPanic.normal ?_
      go_wp2
      go_meet
      exact ⟨gT, g1, g2, rfl, hide ⟨HG.out, K1.out, K2.out, HTs.out, HBB.out⟩⟩
  case rest =>
    obtain ⟨gs, g1, g2, rfl, hcc⟩ := hcut
    obtain ⟨hG, hR1, hR2, hgs, hbel⟩ := hcc.out
    have HX2 := hide (HX.out.below hbel)
    have HA2 := hide (HAv.out.below hbel)
    have HR2 := hide (HR.out.below hbel)
    have HC2 := hide (HCH.out.below hbel)
    have HV22 := hide (HV2.out.below hbel)
    have HV32 := hide (HV3.out.below hbel)
    have HZ22 := hide (HZ2.out.below hbel)
    have HZ32 := hide (HZ3.out.below hbel)
    have HN2 := hide (HN.out.trans (hbel.mono HN.out.size))
    have HG := hide hG
    have HB1 := hide hR1
    have HB2 := hide hR2
    clear hcc hG hR1 hR2 hbel HX HAv HR HCH HV2 HV3 HZ2 HZ3 HN hxs
    obtain ⟨V2, rfl⟩ : ∃ x, x = wc := ⟨_, rfl⟩
    have hnA := mvW_len n zs2 hnb.1
    have hnB := mvW_len n zs3 hnb.1
    have hwA := hide (whoB_mv n zs2 hnb.1)
    have hwB := hide (whoB_mv n zs3 hnb.1)
    have hmA' := hide (mem_mvW n zs2 hnb.1)
    have hmB' := hide (mem_mvW n zs3 hnb.1)
    obtain ⟨wA, hwAe⟩ : ∃ x, Hid (mvW n zs2 = x) := ⟨_, rfl⟩
    obtain ⟨wB, hwBe⟩ : ∃ x, Hid (mvW n zs3 = x) := ⟨_, rfl⟩
    rw [hwAe.out] at hnA hwA hmA'
    rw [hwBe.out] at hnB hwB hmB'
    obtain ⟨mA, hmA⟩ : ∃ x, Hid (wA.length = x) := ⟨_, rfl⟩
    obtain ⟨mB, hmB⟩ : ∃ x, Hid (wB.length = x) := ⟨_, rfl⟩
    rw [hmA.out] at hnA
    rw [hmB.out] at hnB
    obtain ⟨qA, hqA⟩ : ∃ x, Hid (a2_1 % 8 = x) := ⟨_, rfl⟩
    obtain ⟨qB, hqB⟩ : ∃ x, Hid (a3_1 % 8 = x) := ⟨_, rfl⟩
    have hv2s : Hid (∀ w', Below V2.heap.size V2 w' → (Instr.loadAt 43 (.pointer (some ⟨w.heap.size + 1, 0, none⟩))).run Try.prog w' = .ok (.agg (vcells a2_0 a2_1 a2_2 a2_3 a2_4 a2_5 a2_6 len2_6 cap2_6)) w') := fun w' h => load_obj Try.underlying43 infoVO rfl (HV22.out.below h).at_
    have hv3s : Hid (∀ w', Below V2.heap.size V2 w' → (Instr.loadAt 43 (.pointer (some ⟨w.heap.size + 1 + 1, 0, none⟩))).run Try.prog w' = .ok (.agg (vcells a3_0 a3_1 a3_2 a3_3 a3_4 a3_5 a3_6 len3_6 cap3_6)) w') := fun w' h => load_obj Try.underlying43 infoVO rfl (HV32.out.below h).at_
    have hen2 : Enters 25 := fun args w => by kernel_rfl
    unfold Enters at hen2
    have hVc := HX2.out.lt
    go_upto_region 7 with fail
    go_cut [13, 14] from 34 to 39 (fun x y wx => ∃ gA gB ba da bb db, x = Value.pointer (some ⟨gA, 0, none⟩) ∧ y = Value.pointer (some ⟨gB, 0, none⟩) ∧ Hid (OAt wx gA (vobj 0 qA 0 p 0 p ba mA da) ∧ OAt wx gB (vobj 0 qB 0 p 0 p bb mB db) ∧ RowIn .i64 wx ba mA da wA ∧ RowIn .i64 wx bb mB db wB ∧ Below V2.heap.size V2 wx))
    case first =>
      have HB : Hid (Below V2.heap.size V2 V2.drew) := hide (Below.refl _ _).drew
      refine wp_region_noPanic ?_
      refine wp_region_held_drew (S := fun w' => Below V2.heap.size V2 w') (by kernel_rfl) HB.out (fun hHeld => ?_)
      replace HX2 := hide (HX2.out.below HB.out)
      replace HG := hide (HG.out.below HB.out)
      replace HA2 := hide (HA2.out.below HB.out)
      replace HZ22 := hide (HZ22.out.below HB.out)
      replace HZ32 := hide (HZ32.out.below HB.out)
      replace HC2 := hide (HC2.out.below HB.out)
      generalize V2.drew = w0 at HB hHeld HX2 HG HA2 HZ22 HZ32 HC2 ⊢
      refine take_set (i := 0) (v := .func (Fn.func 25) #[] #[.pointer (some ⟨hc, 0, none⟩), .pointer (some ⟨gs, 0, none⟩), .pointer (some ⟨ga, 0, none⟩)]) rfl rfl (by kernel_rfl) (by kernel_rfl) (by kernel_rfl) (fun _ _ _ h => h) (Or.inl ⟨by kernel_rfl, fun w' hSw => ?_⟩) hHeld ?_
      · go_simp
      simp only [List.set_cons_succ, List.set_cons_zero]
      refine take_set (i := 1) (v := .agg (vcells a2_0 a2_1 a2_2 a2_3 a2_4 a2_5 a2_6 len2_6 cap2_6)) rfl rfl (by kernel_rfl) (by kernel_rfl) (by kernel_rfl) (fun _ _ _ h => h) (Or.inl ⟨by kernel_rfl, fun w' hSw => ?_⟩) hHeld ?_
      · exact run_load_whole 43 (.tmp 6) rfl _ _ rfl (hv2s.out w' hSw)
      simp only [List.set_cons_succ, List.set_cons_zero]
      refine take_set (i := 3) (v := .func (Fn.func 25) #[] #[.pointer (some ⟨hc, 0, none⟩), .pointer (some ⟨gs, 0, none⟩), .pointer (some ⟨ga, 0, none⟩)]) rfl rfl (by kernel_rfl) (by kernel_rfl) (by kernel_rfl) (fun _ _ _ h => h) (Or.inl ⟨by kernel_rfl, fun w' hSw => ?_⟩) hHeld ?_
      · go_simp
      simp only [List.set_cons_succ, List.set_cons_zero]
      refine take_set (i := 4) (v := .agg (vcells a3_0 a3_1 a3_2 a3_3 a3_4 a3_5 a3_6 len3_6 cap3_6)) rfl rfl (by kernel_rfl) (by kernel_rfl) (by kernel_rfl) (fun _ _ _ h => h) (Or.inl ⟨by kernel_rfl, fun w' hSw => ?_⟩) hHeld ?_
      · exact run_load_whole 43 (.tmp 7) rfl _ _ rfl (hv3s.out w' hSw)
      simp only [List.set_cons_succ, List.set_cons_zero]
      refine wpAnyH_ready (rs := [2, 6, 7]) (by kernel_rfl) (by simp) ?_
      refine AllReadyH.cons (o := _) rfl (fun K hK => ?_) (AllReadyH.cons (o := _) rfl (fun K hK => ?_) (AllReadyH.cons (o := _) rfl (fun K hK => ?_) (AllReadyH.nil)))
      · go_simp
        refine (fix_any zs2 ⟨JS.first p, 0, List.replicate n false, List.replicate n false⟩ 36 cap f ao n d S B (some ⟨g1, 0, none⟩) n n (some ⟨g2, 0, none⟩) n n a2_0 a2_1 a2_2 a2_3 a2_4 a2_5 a2_6 len2_6 cap2_6 hc gs ga w0 HX2.out HG.out HA2.out HZ22.out enters_law HC2.out hnb hSb hv20 hv21 hv22 hv23 hv25).mono ?_
        rintro ea wq1 ⟨ba, da, rfl, r1, e1, hbel⟩
        rw [hst0.out, hwAe.out, hmA.out, hqA.out, show (⟨JS.first p, 0, List.replicate n false, List.replicate n false⟩ : LS).j.ce = 0 from rfl, show (⟨JS.first p, 0, List.replicate n false, List.replicate n false⟩ : LS).j.cr = p from rfl]
        rw [hwAe.out, hmA.out] at r1
        replace HX2 := hide (HX2.out.below hbel)
        replace HG := hide (HG.out.below hbel)
        replace HA2 := hide (HA2.out.below hbel)
        replace HZ22 := hide (HZ22.out.below hbel)
        replace HZ32 := hide (HZ32.out.below hbel)
        replace HC2 := hide (HC2.out.below hbel)
        replace HB := hide (HB.out.trans (hbel.mono HB.out.size))
        have QA := hide (r1)
        have z1 : Hid (w0.heap.size ≤ wq1.heap.size) := hide hbel.size
        have NA : Hid (∀ b off, ba = some ⟨b, off, none⟩ → w0.heap.size ≤ b ∧ b < wq1.heap.size) := hide (fun b off e => ⟨e1 b off e, r1.far (by omega) b off e⟩)
        clear hbel r1 e1
        refine hK.out _ _ (HB.out) (fun hHeld => ?_)
        clear hK K
        refine wpAnyH_ready (rs := [5, 6, 7]) (by kernel_rfl) (by simp) ?_
        refine AllReadyH.cons (o := _) rfl (fun K hK => ?_) (AllReadyH.cons (o := _) rfl (fun K hK => ?_) (AllReadyH.cons (o := _) rfl (fun K hK => ?_) (AllReadyH.nil)))
        · go_simp
          refine (fix_any zs3 ⟨JS.first p, 0, List.replicate n false, List.replicate n false⟩ 36 cap f ao n d S B (some ⟨g1, 0, none⟩) n n (some ⟨g2, 0, none⟩) n n a3_0 a3_1 a3_2 a3_3 a3_4 a3_5 a3_6 len3_6 cap3_6 hc gs ga wq1 HX2.out HG.out HA2.out HZ32.out enters_law HC2.out hnb hSb hv30 hv31 hv32 hv33 hv35).mono ?_
          rintro ea wq2 ⟨bb, db, rfl, r1, e1, hbel⟩
          rw [hst0.out, hwBe.out, hmB.out, hqB.out, show (⟨JS.first p, 0, List.replicate n false, List.replicate n false⟩ : LS).j.ce = 0 from rfl, show (⟨JS.first p, 0, List.replicate n false, List.replicate n false⟩ : LS).j.cr = p from rfl]
          rw [hwBe.out, hmB.out] at r1
          replace HX2 := hide (HX2.out.below hbel)
          replace HG := hide (HG.out.below hbel)
          replace HA2 := hide (HA2.out.below hbel)
          replace HZ22 := hide (HZ22.out.below hbel)
          replace HZ32 := hide (HZ32.out.below hbel)
          replace HC2 := hide (HC2.out.below hbel)
          replace QA := hide (QA.out.below hbel)
          replace HB := hide (HB.out.trans (hbel.mono HB.out.size))
          have QB := hide (r1)
          have z2 : Hid (wq1.heap.size ≤ wq2.heap.size) := hide hbel.size
          have NB : Hid (∀ b off, bb = some ⟨b, off, none⟩ → wq1.heap.size ≤ b ∧ b < wq2.heap.size) := hide (fun b off e => ⟨e1 b off e, r1.far (by omega) b off e⟩)
          clear hbel r1 e1
          refine hK.out _ _ (HB.out) (fun hHeld => ?_)
          clear hK K
          refine wpAnyH_ready (rs := [6, 7]) (by kernel_rfl) (by simp) ?_
          refine AllReadyH.cons (o := _) rfl (fun K hK => ?_) (AllReadyH.cons (o := _) rfl (fun K hK => ?_) (AllReadyH.nil))
          · have hbel := below_alloc wq2 (vobj 0 0 0 0 0 0 none 0 0)
            have HTA := hide (OAt.new wq2 (vobj 0 0 0 0 0 0 none 0 0))
            go_simp
            refine hK.out _ _ (HB.out.trans (hbel.mono HB.out.size)) (fun hHeld => ?_)
            clear hK K
            have z3 : Hid ((wq2.alloc (vobj 0 0 0 0 0 0 none 0 0)).heap.size = wq2.heap.size + 1) := hide (by simp)
            generalize wq2.alloc (vobj 0 0 0 0 0 0 none 0 0) = wq3 at hbel HTA hHeld z3 ⊢
            replace HX2 := hide (HX2.out.below hbel)
            replace HG := hide (HG.out.below hbel)
            replace HA2 := hide (HA2.out.below hbel)
            replace HZ22 := hide (HZ22.out.below hbel)
            replace HZ32 := hide (HZ32.out.below hbel)
            replace HC2 := hide (HC2.out.below hbel)
            replace QA := hide (QA.out.below hbel)
            replace QB := hide (QB.out.below hbel)
            have HTAs : Hid (V2.heap.size ≤ wq2.heap.size) := hide HB.out.size
            replace HB := hide (HB.out.trans (hbel.mono HB.out.size))
            clear hbel
            obtain ⟨gA, gAe⟩ : ∃ x, Hid (wq2.heap.size = x) := ⟨_, rfl⟩
            rw [gAe.out] at HTA HTAs ⊢
            have hbel := below_alloc wq3 (vobj 0 0 0 0 0 0 none 0 0)
            have HTB := hide (OAt.new wq3 (vobj 0 0 0 0 0 0 none 0 0))
            refine wpAnyH_ready (rs := [7]) (by kernel_rfl) (by simp) ?_
            refine AllReadyH.cons (o := _) rfl (fun K hK => ?_) AllReadyH.nil
            go_simp
            refine hK.out _ _ (HB.out.trans (hbel.mono HB.out.size)) (fun hHeld => ?_)
            clear hK K
            have z4 : Hid ((wq3.alloc (vobj 0 0 0 0 0 0 none 0 0)).heap.size = wq3.heap.size + 1) := hide (by simp)
            generalize wq3.alloc (vobj 0 0 0 0 0 0 none 0 0) = wq4 at hbel HTB hHeld z4 ⊢
            replace HX2 := hide (HX2.out.below hbel)
            replace HG := hide (HG.out.below hbel)
            replace HA2 := hide (HA2.out.below hbel)
            replace HZ22 := hide (HZ22.out.below hbel)
            replace HZ32 := hide (HZ32.out.below hbel)
            replace HC2 := hide (HC2.out.below hbel)
            replace QA := hide (QA.out.below hbel)
            replace QB := hide (QB.out.below hbel)
            replace HTA := hide (HTA.out.below hbel)
            have HTBs : Hid (V2.heap.size ≤ wq3.heap.size) := hide HB.out.size
            replace HB := hide (HB.out.trans (hbel.mono HB.out.size))
            clear hbel
            obtain ⟨gB, gBe⟩ : ∃ x, Hid (wq3.heap.size = x) := ⟨_, rfl⟩
            rw [gBe.out] at HTB HTBs ⊢
            refine wpAnyH_ready (rs := [8]) (by kernel_rfl) (by simp) ?_
            refine AllReadyH.cons (o := _) rfl (fun K hK => ?_) AllReadyH.nil
            obtain ⟨wq5, hrun, hoS, haS⟩ := store_obj (P := Try.prog) (ty := 43) (n := 7) (cs := (vcells 0 qA 0 p 0 p ba mA da).toList) infoVO rfl rfl (by simp [Value.oneCell']) HTA.out.at_
            have y1 := z1.out
            have y2 := z2.out
            have y3 := z3.out
            have y4 := z4.out
            have yA := HTAs.out
            have yB := HTBs.out
            have ya := gAe.out
            have yb := gBe.out
            refine step_store_at 43 (.tmp 13) (.tmp 36) rfl rfl _ _ rfl rfl wq5 hrun ?_
            replace QA := hide (QA.out.aside haS (fun b off e => by have := NA.out b off e; omega))
            replace QB := hide (QB.out.aside haS (fun b off e => by have := NB.out b off e; omega))
            replace HTB := hide (HTB.out.apart haS (by omega))
            have HGA := hide ((show OAt wq5 gA (vobj 0 qA 0 p 0 p ba mA da) from OAt.of hoS))
            have HBA := hide (HB.out.trans (haS.old _ HB.out.size (by omega)))
            have z5 : Hid (wq4.heap.size ≤ wq5.heap.size) := hide haS.size
            refine hK.out _ _ ((HB.out.trans (haS.old _ HB.out.size (by omega)))) (fun hHeld => ?_)
            clear hK K
            refine wpAnyH_ready (rs := [9]) (by kernel_rfl) (by simp) ?_
            refine AllReadyH.cons (o := _) rfl (fun K hK => ?_) AllReadyH.nil
            obtain ⟨wq6, hrun, hoS, haS⟩ := store_obj (P := Try.prog) (ty := 43) (n := 7) (cs := (vcells 0 qB 0 p 0 p bb mB db).toList) infoVO rfl rfl (by simp [Value.oneCell']) HTB.out.at_
            have y1 := z1.out
            have y2 := z2.out
            have y3 := z3.out
            have y4 := z4.out
            have y5 := z5.out
            have yA := HTAs.out
            have yB := HTBs.out
            have ya := gAe.out
            have yb := gBe.out
            refine step_store_at 43 (.tmp 14) (.tmp 39) rfl rfl _ _ rfl rfl wq6 hrun ?_
            replace QA := hide (QA.out.aside haS (fun b off e => by have := NA.out b off e; omega))
            replace QB := hide (QB.out.aside haS (fun b off e => by have := NB.out b off e; omega))
            replace HGA := hide (HGA.out.apart haS (by omega))
            have HGB := hide ((show OAt wq6 gB (vobj 0 qB 0 p 0 p bb mB db) from OAt.of hoS))
            have HBB := hide (HBA.out.trans (haS.old _ HBA.out.size (by omega)))
            have z6 : Hid (wq5.heap.size ≤ wq6.heap.size) := hide haS.size
            refine hK.out _ _ ((HBA.out.trans (haS.old _ HBA.out.size (by omega)))) (fun hHeld => ?_)
            clear hK K
            refine wpAnyH_done (by kernel_rfl) ?_ _
            refine NoPanic.normal ?_
            go_wp2
            go_meet
            exact ⟨gA, gB, ba, da, bb, db, rfl, rfl, hide ⟨HGA.out, HGB.out, QA.out, QB.out, HBB.out⟩⟩
          · have hbel := below_alloc wq2 (vobj 0 0 0 0 0 0 none 0 0)
            have HTB := hide (OAt.new wq2 (vobj 0 0 0 0 0 0 none 0 0))
            go_simp
            refine hK.out _ _ (HB.out.trans (hbel.mono HB.out.size)) (fun hHeld => ?_)
            clear hK K
            have z3 : Hid ((wq2.alloc (vobj 0 0 0 0 0 0 none 0 0)).heap.size = wq2.heap.size + 1) := hide (by simp)
            generalize wq2.alloc (vobj 0 0 0 0 0 0 none 0 0) = wq3 at hbel HTB hHeld z3 ⊢
            replace HX2 := hide (HX2.out.below hbel)
            replace HG := hide (HG.out.below hbel)
            replace HA2 := hide (HA2.out.below hbel)
            replace HZ22 := hide (HZ22.out.below hbel)
            replace HZ32 := hide (HZ32.out.below hbel)
            replace HC2 := hide (HC2.out.below hbel)
            replace QA := hide (QA.out.below hbel)
            replace QB := hide (QB.out.below hbel)
            have HTBs : Hid (V2.heap.size ≤ wq2.heap.size) := hide HB.out.size
            replace HB := hide (HB.out.trans (hbel.mono HB.out.size))
            clear hbel
            obtain ⟨gB, gBe⟩ : ∃ x, Hid (wq2.heap.size = x) := ⟨_, rfl⟩
            rw [gBe.out] at HTB HTBs ⊢
            have hbel := below_alloc wq3 (vobj 0 0 0 0 0 0 none 0 0)
            have HTA := hide (OAt.new wq3 (vobj 0 0 0 0 0 0 none 0 0))
            refine wpAnyH_ready (rs := [6]) (by kernel_rfl) (by simp) ?_
            refine AllReadyH.cons (o := _) rfl (fun K hK => ?_) AllReadyH.nil
            go_simp
            refine hK.out _ _ (HB.out.trans (hbel.mono HB.out.size)) (fun hHeld => ?_)
            clear hK K
            have z4 : Hid ((wq3.alloc (vobj 0 0 0 0 0 0 none 0 0)).heap.size = wq3.heap.size + 1) := hide (by simp)
            generalize wq3.alloc (vobj 0 0 0 0 0 0 none 0 0) = wq4 at hbel HTA hHeld z4 ⊢
            replace HX2 := hide (HX2.out.below hbel)
            replace HG := hide (HG.out.below hbel)
            replace HA2 := hide (HA2.out.below hbel)
            replace HZ22 := hide (HZ22.out.below hbel)
            replace HZ32 := hide (HZ32.out.below hbel)
            replace HC2 := hide (HC2.out.below hbel)
            replace QA := hide (QA.out.below hbel)
            replace QB := hide (QB.out.below hbel)
            replace HTB := hide (HTB.out.below hbel)
            have HTAs : Hid (V2.heap.size ≤ wq3.heap.size) := hide HB.out.size
            replace HB := hide (HB.out.trans (hbel.mono HB.out.size))
            clear hbel
            obtain ⟨gA, gAe⟩ : ∃ x, Hid (wq3.heap.size = x) := ⟨_, rfl⟩
            rw [gAe.out] at HTA HTAs ⊢
            refine wpAnyH_ready (rs := [8]) (by kernel_rfl) (by simp) ?_
            refine AllReadyH.cons (o := _) rfl (fun K hK => ?_) AllReadyH.nil
            obtain ⟨wq5, hrun, hoS, haS⟩ := store_obj (P := Try.prog) (ty := 43) (n := 7) (cs := (vcells 0 qA 0 p 0 p ba mA da).toList) infoVO rfl rfl (by simp [Value.oneCell']) HTA.out.at_
            have y1 := z1.out
            have y2 := z2.out
            have y3 := z3.out
            have y4 := z4.out
            have yA := HTAs.out
            have yB := HTBs.out
            have ya := gAe.out
            have yb := gBe.out
            refine step_store_at 43 (.tmp 13) (.tmp 36) rfl rfl _ _ rfl rfl wq5 hrun ?_
            replace QA := hide (QA.out.aside haS (fun b off e => by have := NA.out b off e; omega))
            replace QB := hide (QB.out.aside haS (fun b off e => by have := NB.out b off e; omega))
            replace HTB := hide (HTB.out.apart haS (by omega))
            have HGA := hide ((show OAt wq5 gA (vobj 0 qA 0 p 0 p ba mA da) from OAt.of hoS))
            have HBA := hide (HB.out.trans (haS.old _ HB.out.size (by omega)))
            have z5 : Hid (wq4.heap.size ≤ wq5.heap.size) := hide haS.size
            refine hK.out _ _ ((HB.out.trans (haS.old _ HB.out.size (by omega)))) (fun hHeld => ?_)
            clear hK K
            refine wpAnyH_ready (rs := [9]) (by kernel_rfl) (by simp) ?_
            refine AllReadyH.cons (o := _) rfl (fun K hK => ?_) AllReadyH.nil
            obtain ⟨wq6, hrun, hoS, haS⟩ := store_obj (P := Try.prog) (ty := 43) (n := 7) (cs := (vcells 0 qB 0 p 0 p bb mB db).toList) infoVO rfl rfl (by simp [Value.oneCell']) HTB.out.at_
            have y1 := z1.out
            have y2 := z2.out
            have y3 := z3.out
            have y4 := z4.out
            have y5 := z5.out
            have yA := HTAs.out
            have yB := HTBs.out
            have ya := gAe.out
            have yb := gBe.out
            refine step_store_at 43 (.tmp 14) (.tmp 39) rfl rfl _ _ rfl rfl wq6 hrun ?_
            replace QA := hide (QA.out.aside haS (fun b off e => by have := NA.out b off e; omega))
            replace QB := hide (QB.out.aside haS (fun b off e => by have := NB.out b off e; omega))
            replace HGA := hide (HGA.out.apart haS (by omega))
            have HGB := hide ((show OAt wq6 gB (vobj 0 qB 0 p 0 p bb mB db) from OAt.of hoS))
            have HBB := hide (HBA.out.trans (haS.old _ HBA.out.size (by omega)))
            have z6 : Hid (wq5.heap.size ≤ wq6.heap.size) := hide haS.size
            refine hK.out _ _ ((HBA.out.trans (haS.old _ HBA.out.size (by omega)))) (fun hHeld => ?_)
            clear hK K
            refine wpAnyH_done (by kernel_rfl) ?_ _
            refine NoPanic.normal ?_
            go_wp2
            go_meet
            exact ⟨gA, gB, ba, da, bb, db, rfl, rfl, hide ⟨HGA.out, HGB.out, QA.out, QB.out, HBB.out⟩⟩
        · have hbel := below_alloc wq1 (vobj 0 0 0 0 0 0 none 0 0)
          have HTA := hide (OAt.new wq1 (vobj 0 0 0 0 0 0 none 0 0))
          go_simp
          refine hK.out _ _ (HB.out.trans (hbel.mono HB.out.size)) (fun hHeld => ?_)
          clear hK K
          have z2 : Hid ((wq1.alloc (vobj 0 0 0 0 0 0 none 0 0)).heap.size = wq1.heap.size + 1) := hide (by simp)
          generalize wq1.alloc (vobj 0 0 0 0 0 0 none 0 0) = wq2 at hbel HTA hHeld z2 ⊢
          replace HX2 := hide (HX2.out.below hbel)
          replace HG := hide (HG.out.below hbel)
          replace HA2 := hide (HA2.out.below hbel)
          replace HZ22 := hide (HZ22.out.below hbel)
          replace HZ32 := hide (HZ32.out.below hbel)
          replace HC2 := hide (HC2.out.below hbel)
          replace QA := hide (QA.out.below hbel)
          have HTAs : Hid (V2.heap.size ≤ wq1.heap.size) := hide HB.out.size
          replace HB := hide (HB.out.trans (hbel.mono HB.out.size))
          clear hbel
          obtain ⟨gA, gAe⟩ : ∃ x, Hid (wq1.heap.size = x) := ⟨_, rfl⟩
          rw [gAe.out] at HTA HTAs ⊢
          refine wpAnyH_ready (rs := [5, 7]) (by kernel_rfl) (by simp) ?_
          refine AllReadyH.cons (o := _) rfl (fun K hK => ?_) (AllReadyH.cons (o := _) rfl (fun K hK => ?_) (AllReadyH.nil))
          · go_simp
            refine (fix_any zs3 ⟨JS.first p, 0, List.replicate n false, List.replicate n false⟩ 36 cap f ao n d S B (some ⟨g1, 0, none⟩) n n (some ⟨g2, 0, none⟩) n n a3_0 a3_1 a3_2 a3_3 a3_4 a3_5 a3_6 len3_6 cap3_6 hc gs ga wq2 HX2.out HG.out HA2.out HZ32.out enters_law HC2.out hnb hSb hv30 hv31 hv32 hv33 hv35).mono ?_
            rintro ea wq3 ⟨bb, db, rfl, r1, e1, hbel⟩
            rw [hst0.out, hwBe.out, hmB.out, hqB.out, show (⟨JS.first p, 0, List.replicate n false, List.replicate n false⟩ : LS).j.ce = 0 from rfl, show (⟨JS.first p, 0, List.replicate n false, List.replicate n false⟩ : LS).j.cr = p from rfl]
            rw [hwBe.out, hmB.out] at r1
            replace HX2 := hide (HX2.out.below hbel)
            replace HG := hide (HG.out.below hbel)
            replace HA2 := hide (HA2.out.below hbel)
            replace HZ22 := hide (HZ22.out.below hbel)
            replace HZ32 := hide (HZ32.out.below hbel)
            replace HC2 := hide (HC2.out.below hbel)
            replace QA := hide (QA.out.below hbel)
            replace HTA := hide (HTA.out.below hbel)
            replace HB := hide (HB.out.trans (hbel.mono HB.out.size))
            have QB := hide (r1)
            have z3 : Hid (wq2.heap.size ≤ wq3.heap.size) := hide hbel.size
            have NB : Hid (∀ b off, bb = some ⟨b, off, none⟩ → wq2.heap.size ≤ b ∧ b < wq3.heap.size) := hide (fun b off e => ⟨e1 b off e, r1.far (by omega) b off e⟩)
            clear hbel r1 e1
            refine hK.out _ _ (HB.out) (fun hHeld => ?_)
            clear hK K
            have hbel := below_alloc wq3 (vobj 0 0 0 0 0 0 none 0 0)
            have HTB := hide (OAt.new wq3 (vobj 0 0 0 0 0 0 none 0 0))
            refine wpAnyH_ready (rs := [7]) (by kernel_rfl) (by simp) ?_
            refine AllReadyH.cons (o := _) rfl (fun K hK => ?_) AllReadyH.nil
            go_simp
            refine hK.out _ _ (HB.out.trans (hbel.mono HB.out.size)) (fun hHeld => ?_)
            clear hK K
            have z4 : Hid ((wq3.alloc (vobj 0 0 0 0 0 0 none 0 0)).heap.size = wq3.heap.size + 1) := hide (by simp)
            generalize wq3.alloc (vobj 0 0 0 0 0 0 none 0 0) = wq4 at hbel HTB hHeld z4 ⊢
            replace HX2 := hide (HX2.out.below hbel)
            replace HG := hide (HG.out.below hbel)
            replace HA2 := hide (HA2.out.below hbel)
            replace HZ22 := hide (HZ22.out.below hbel)
            replace HZ32 := hide (HZ32.out.below hbel)
            replace HC2 := hide (HC2.out.below hbel)
            replace QA := hide (QA.out.below hbel)
            replace HTA := hide (HTA.out.below hbel)
            replace QB := hide (QB.out.below hbel)
            have HTBs : Hid (V2.heap.size ≤ wq3.heap.size) := hide HB.out.size
            replace HB := hide (HB.out.trans (hbel.mono HB.out.size))
            clear hbel
            obtain ⟨gB, gBe⟩ : ∃ x, Hid (wq3.heap.size = x) := ⟨_, rfl⟩
            rw [gBe.out] at HTB HTBs ⊢
            refine wpAnyH_ready (rs := [8]) (by kernel_rfl) (by simp) ?_
            refine AllReadyH.cons (o := _) rfl (fun K hK => ?_) AllReadyH.nil
            obtain ⟨wq5, hrun, hoS, haS⟩ := store_obj (P := Try.prog) (ty := 43) (n := 7) (cs := (vcells 0 qA 0 p 0 p ba mA da).toList) infoVO rfl rfl (by simp [Value.oneCell']) HTA.out.at_
            have y1 := z1.out
            have y2 := z2.out
            have y3 := z3.out
            have y4 := z4.out
            have yA := HTAs.out
            have yB := HTBs.out
            have ya := gAe.out
            have yb := gBe.out
            refine step_store_at 43 (.tmp 13) (.tmp 36) rfl rfl _ _ rfl rfl wq5 hrun ?_
            replace QA := hide (QA.out.aside haS (fun b off e => by have := NA.out b off e; omega))
            replace QB := hide (QB.out.aside haS (fun b off e => by have := NB.out b off e; omega))
            replace HTB := hide (HTB.out.apart haS (by omega))
            have HGA := hide ((show OAt wq5 gA (vobj 0 qA 0 p 0 p ba mA da) from OAt.of hoS))
            have HBA := hide (HB.out.trans (haS.old _ HB.out.size (by omega)))
            have z5 : Hid (wq4.heap.size ≤ wq5.heap.size) := hide haS.size
            refine hK.out _ _ ((HB.out.trans (haS.old _ HB.out.size (by omega)))) (fun hHeld => ?_)
            clear hK K
            refine wpAnyH_ready (rs := [9]) (by kernel_rfl) (by simp) ?_
            refine AllReadyH.cons (o := _) rfl (fun K hK => ?_) AllReadyH.nil
            obtain ⟨wq6, hrun, hoS, haS⟩ := store_obj (P := Try.prog) (ty := 43) (n := 7) (cs := (vcells 0 qB 0 p 0 p bb mB db).toList) infoVO rfl rfl (by simp [Value.oneCell']) HTB.out.at_
            have y1 := z1.out
            have y2 := z2.out
            have y3 := z3.out
            have y4 := z4.out
            have y5 := z5.out
            have yA := HTAs.out
            have yB := HTBs.out
            have ya := gAe.out
            have yb := gBe.out
            refine step_store_at 43 (.tmp 14) (.tmp 39) rfl rfl _ _ rfl rfl wq6 hrun ?_
            replace QA := hide (QA.out.aside haS (fun b off e => by have := NA.out b off e; omega))
            replace QB := hide (QB.out.aside haS (fun b off e => by have := NB.out b off e; omega))
            replace HGA := hide (HGA.out.apart haS (by omega))
            have HGB := hide ((show OAt wq6 gB (vobj 0 qB 0 p 0 p bb mB db) from OAt.of hoS))
            have HBB := hide (HBA.out.trans (haS.old _ HBA.out.size (by omega)))
            have z6 : Hid (wq5.heap.size ≤ wq6.heap.size) := hide haS.size
            refine hK.out _ _ ((HBA.out.trans (haS.old _ HBA.out.size (by omega)))) (fun hHeld => ?_)
            clear hK K
            refine wpAnyH_done (by kernel_rfl) ?_ _
            refine NoPanic.normal ?_
            go_wp2
            go_meet
            exact ⟨gA, gB, ba, da, bb, db, rfl, rfl, hide ⟨HGA.out, HGB.out, QA.out, QB.out, HBB.out⟩⟩
          · have hbel := below_alloc wq2 (vobj 0 0 0 0 0 0 none 0 0)
            have HTB := hide (OAt.new wq2 (vobj 0 0 0 0 0 0 none 0 0))
            go_simp
            refine hK.out _ _ (HB.out.trans (hbel.mono HB.out.size)) (fun hHeld => ?_)
            clear hK K
            have z3 : Hid ((wq2.alloc (vobj 0 0 0 0 0 0 none 0 0)).heap.size = wq2.heap.size + 1) := hide (by simp)
            generalize wq2.alloc (vobj 0 0 0 0 0 0 none 0 0) = wq3 at hbel HTB hHeld z3 ⊢
            replace HX2 := hide (HX2.out.below hbel)
            replace HG := hide (HG.out.below hbel)
            replace HA2 := hide (HA2.out.below hbel)
            replace HZ22 := hide (HZ22.out.below hbel)
            replace HZ32 := hide (HZ32.out.below hbel)
            replace HC2 := hide (HC2.out.below hbel)
            replace QA := hide (QA.out.below hbel)
            replace HTA := hide (HTA.out.below hbel)
            have HTBs : Hid (V2.heap.size ≤ wq2.heap.size) := hide HB.out.size
            replace HB := hide (HB.out.trans (hbel.mono HB.out.size))
            clear hbel
            obtain ⟨gB, gBe⟩ : ∃ x, Hid (wq2.heap.size = x) := ⟨_, rfl⟩
            rw [gBe.out] at HTB HTBs ⊢
            refine wpAnyH_ready (rs := [5]) (by kernel_rfl) (by simp) ?_
            refine AllReadyH.cons (o := _) rfl (fun K hK => ?_) AllReadyH.nil
            go_simp
            refine (fix_any zs3 ⟨JS.first p, 0, List.replicate n false, List.replicate n false⟩ 36 cap f ao n d S B (some ⟨g1, 0, none⟩) n n (some ⟨g2, 0, none⟩) n n a3_0 a3_1 a3_2 a3_3 a3_4 a3_5 a3_6 len3_6 cap3_6 hc gs ga wq3 HX2.out HG.out HA2.out HZ32.out enters_law HC2.out hnb hSb hv30 hv31 hv32 hv33 hv35).mono ?_
            rintro ea wq4 ⟨bb, db, rfl, r1, e1, hbel⟩
            rw [hst0.out, hwBe.out, hmB.out, hqB.out, show (⟨JS.first p, 0, List.replicate n false, List.replicate n false⟩ : LS).j.ce = 0 from rfl, show (⟨JS.first p, 0, List.replicate n false, List.replicate n false⟩ : LS).j.cr = p from rfl]
            rw [hwBe.out, hmB.out] at r1
            replace HX2 := hide (HX2.out.below hbel)
            replace HG := hide (HG.out.below hbel)
            replace HA2 := hide (HA2.out.below hbel)
            replace HZ22 := hide (HZ22.out.below hbel)
            replace HZ32 := hide (HZ32.out.below hbel)
            replace HC2 := hide (HC2.out.below hbel)
            replace QA := hide (QA.out.below hbel)
            replace HTA := hide (HTA.out.below hbel)
            replace HTB := hide (HTB.out.below hbel)
            replace HB := hide (HB.out.trans (hbel.mono HB.out.size))
            have QB := hide (r1)
            have z4 : Hid (wq3.heap.size ≤ wq4.heap.size) := hide hbel.size
            have NB : Hid (∀ b off, bb = some ⟨b, off, none⟩ → wq3.heap.size ≤ b ∧ b < wq4.heap.size) := hide (fun b off e => ⟨e1 b off e, r1.far (by omega) b off e⟩)
            clear hbel r1 e1
            refine hK.out _ _ (HB.out) (fun hHeld => ?_)
            clear hK K
            refine wpAnyH_ready (rs := [8]) (by kernel_rfl) (by simp) ?_
            refine AllReadyH.cons (o := _) rfl (fun K hK => ?_) AllReadyH.nil
            obtain ⟨wq5, hrun, hoS, haS⟩ := store_obj (P := Try.prog) (ty := 43) (n := 7) (cs := (vcells 0 qA 0 p 0 p ba mA da).toList) infoVO rfl rfl (by simp [Value.oneCell']) HTA.out.at_
            have y1 := z1.out
            have y2 := z2.out
            have y3 := z3.out
            have y4 := z4.out
            have yA := HTAs.out
            have yB := HTBs.out
            have ya := gAe.out
            have yb := gBe.out
            refine step_store_at 43 (.tmp 13) (.tmp 36) rfl rfl _ _ rfl rfl wq5 hrun ?_
            replace QA := hide (QA.out.aside haS (fun b off e => by have := NA.out b off e; omega))
            replace HTB := hide (HTB.out.apart haS (by omega))
            replace QB := hide (QB.out.aside haS (fun b off e => by have := NB.out b off e; omega))
            have HGA := hide ((show OAt wq5 gA (vobj 0 qA 0 p 0 p ba mA da) from OAt.of hoS))
            have HBA := hide (HB.out.trans (haS.old _ HB.out.size (by omega)))
            have z5 : Hid (wq4.heap.size ≤ wq5.heap.size) := hide haS.size
            refine hK.out _ _ ((HB.out.trans (haS.old _ HB.out.size (by omega)))) (fun hHeld => ?_)
            clear hK K
            refine wpAnyH_ready (rs := [9]) (by kernel_rfl) (by simp) ?_
            refine AllReadyH.cons (o := _) rfl (fun K hK => ?_) AllReadyH.nil
            obtain ⟨wq6, hrun, hoS, haS⟩ := store_obj (P := Try.prog) (ty := 43) (n := 7) (cs := (vcells 0 qB 0 p 0 p bb mB db).toList) infoVO rfl rfl (by simp [Value.oneCell']) HTB.out.at_
            have y1 := z1.out
            have y2 := z2.out
            have y3 := z3.out
            have y4 := z4.out
            have y5 := z5.out
            have yA := HTAs.out
            have yB := HTBs.out
            have ya := gAe.out
            have yb := gBe.out
            refine step_store_at 43 (.tmp 14) (.tmp 39) rfl rfl _ _ rfl rfl wq6 hrun ?_
            replace QA := hide (QA.out.aside haS (fun b off e => by have := NA.out b off e; omega))
            replace QB := hide (QB.out.aside haS (fun b off e => by have := NB.out b off e; omega))
            replace HGA := hide (HGA.out.apart haS (by omega))
            have HGB := hide ((show OAt wq6 gB (vobj 0 qB 0 p 0 p bb mB db) from OAt.of hoS))
            have HBB := hide (HBA.out.trans (haS.old _ HBA.out.size (by omega)))
            have z6 : Hid (wq5.heap.size ≤ wq6.heap.size) := hide haS.size
            refine hK.out _ _ ((HBA.out.trans (haS.old _ HBA.out.size (by omega)))) (fun hHeld => ?_)
            clear hK K
            refine wpAnyH_done (by kernel_rfl) ?_ _
            refine NoPanic.normal ?_
            go_wp2
            go_meet
            exact ⟨gA, gB, ba, da, bb, db, rfl, rfl, hide ⟨HGA.out, HGB.out, QA.out, QB.out, HBB.out⟩⟩
        · have hbel := below_alloc wq1 (vobj 0 0 0 0 0 0 none 0 0)
          have HTB := hide (OAt.new wq1 (vobj 0 0 0 0 0 0 none 0 0))
          go_simp
          refine hK.out _ _ (HB.out.trans (hbel.mono HB.out.size)) (fun hHeld => ?_)
          clear hK K
          have z2 : Hid ((wq1.alloc (vobj 0 0 0 0 0 0 none 0 0)).heap.size = wq1.heap.size + 1) := hide (by simp)
          generalize wq1.alloc (vobj 0 0 0 0 0 0 none 0 0) = wq2 at hbel HTB hHeld z2 ⊢
          replace HX2 := hide (HX2.out.below hbel)
          replace HG := hide (HG.out.below hbel)
          replace HA2 := hide (HA2.out.below hbel)
          replace HZ22 := hide (HZ22.out.below hbel)
          replace HZ32 := hide (HZ32.out.below hbel)
          replace HC2 := hide (HC2.out.below hbel)
          replace QA := hide (QA.out.below hbel)
          have HTBs : Hid (V2.heap.size ≤ wq1.heap.size) := hide HB.out.size
          replace HB := hide (HB.out.trans (hbel.mono HB.out.size))
          clear hbel
          obtain ⟨gB, gBe⟩ : ∃ x, Hid (wq1.heap.size = x) := ⟨_, rfl⟩
          rw [gBe.out] at HTB HTBs ⊢
          refine wpAnyH_ready (rs := [5, 6]) (by kernel_rfl) (by simp) ?_
          refine AllReadyH.cons (o := _) rfl (fun K hK => ?_) (AllReadyH.cons (o := _) rfl (fun K hK => ?_) (AllReadyH.nil))
          · go_simp
            refine (fix_any zs3 ⟨JS.first p, 0, List.replicate n false, List.replicate n false⟩ 36 cap f ao n d S B (some ⟨g1, 0, none⟩) n n (some ⟨g2, 0, none⟩) n n a3_0 a3_1 a3_2 a3_3 a3_4 a3_5 a3_6 len3_6 cap3_6 hc gs ga wq2 HX2.out HG.out HA2.out HZ32.out enters_law HC2.out hnb hSb hv30 hv31 hv32 hv33 hv35).mono ?_
            rintro ea wq3 ⟨bb, db, rfl, r1, e1, hbel⟩
            rw [hst0.out, hwBe.out, hmB.out, hqB.out, show (⟨JS.first p, 0, List.replicate n false, List.replicate n false⟩ : LS).j.ce = 0 from rfl, show (⟨JS.first p, 0, List.replicate n false, List.replicate n false⟩ : LS).j.cr = p from rfl]
            rw [hwBe.out, hmB.out] at r1
            replace HX2 := hide (HX2.out.below hbel)
            replace HG := hide (HG.out.below hbel)
            replace HA2 := hide (HA2.out.below hbel)
            replace HZ22 := hide (HZ22.out.below hbel)
            replace HZ32 := hide (HZ32.out.below hbel)
            replace HC2 := hide (HC2.out.below hbel)
            replace QA := hide (QA.out.below hbel)
            replace HTB := hide (HTB.out.below hbel)
            replace HB := hide (HB.out.trans (hbel.mono HB.out.size))
            have QB := hide (r1)
            have z3 : Hid (wq2.heap.size ≤ wq3.heap.size) := hide hbel.size
            have NB : Hid (∀ b off, bb = some ⟨b, off, none⟩ → wq2.heap.size ≤ b ∧ b < wq3.heap.size) := hide (fun b off e => ⟨e1 b off e, r1.far (by omega) b off e⟩)
            clear hbel r1 e1
            refine hK.out _ _ (HB.out) (fun hHeld => ?_)
            clear hK K
            have hbel := below_alloc wq3 (vobj 0 0 0 0 0 0 none 0 0)
            have HTA := hide (OAt.new wq3 (vobj 0 0 0 0 0 0 none 0 0))
            refine wpAnyH_ready (rs := [6]) (by kernel_rfl) (by simp) ?_
            refine AllReadyH.cons (o := _) rfl (fun K hK => ?_) AllReadyH.nil
            go_simp
            refine hK.out _ _ (HB.out.trans (hbel.mono HB.out.size)) (fun hHeld => ?_)
            clear hK K
            have z4 : Hid ((wq3.alloc (vobj 0 0 0 0 0 0 none 0 0)).heap.size = wq3.heap.size + 1) := hide (by simp)
            generalize wq3.alloc (vobj 0 0 0 0 0 0 none 0 0) = wq4 at hbel HTA hHeld z4 ⊢
            replace HX2 := hide (HX2.out.below hbel)
            replace HG := hide (HG.out.below hbel)
            replace HA2 := hide (HA2.out.below hbel)
            replace HZ22 := hide (HZ22.out.below hbel)
            replace HZ32 := hide (HZ32.out.below hbel)
            replace HC2 := hide (HC2.out.below hbel)
            replace QA := hide (QA.out.below hbel)
            replace HTB := hide (HTB.out.below hbel)
            replace QB := hide (QB.out.below hbel)
            have HTAs : Hid (V2.heap.size ≤ wq3.heap.size) := hide HB.out.size
            replace HB := hide (HB.out.trans (hbel.mono HB.out.size))
            clear hbel
            obtain ⟨gA, gAe⟩ : ∃ x, Hid (wq3.heap.size = x) := ⟨_, rfl⟩
            rw [gAe.out] at HTA HTAs ⊢
            refine wpAnyH_ready (rs := [8]) (by kernel_rfl) (by simp) ?_
            refine AllReadyH.cons (o := _) rfl (fun K hK => ?_) AllReadyH.nil
            obtain ⟨wq5, hrun, hoS, haS⟩ := store_obj (P := Try.prog) (ty := 43) (n := 7) (cs := (vcells 0 qA 0 p 0 p ba mA da).toList) infoVO rfl rfl (by simp [Value.oneCell']) HTA.out.at_
            have y1 := z1.out
            have y2 := z2.out
            have y3 := z3.out
            have y4 := z4.out
            have yA := HTAs.out
            have yB := HTBs.out
            have ya := gAe.out
            have yb := gBe.out
            refine step_store_at 43 (.tmp 13) (.tmp 36) rfl rfl _ _ rfl rfl wq5 hrun ?_
            replace QA := hide (QA.out.aside haS (fun b off e => by have := NA.out b off e; omega))
            replace HTB := hide (HTB.out.apart haS (by omega))
            replace QB := hide (QB.out.aside haS (fun b off e => by have := NB.out b off e; omega))
            have HGA := hide ((show OAt wq5 gA (vobj 0 qA 0 p 0 p ba mA da) from OAt.of hoS))
            have HBA := hide (HB.out.trans (haS.old _ HB.out.size (by omega)))
            have z5 : Hid (wq4.heap.size ≤ wq5.heap.size) := hide haS.size
            refine hK.out _ _ ((HB.out.trans (haS.old _ HB.out.size (by omega)))) (fun hHeld => ?_)
            clear hK K
            refine wpAnyH_ready (rs := [9]) (by kernel_rfl) (by simp) ?_
            refine AllReadyH.cons (o := _) rfl (fun K hK => ?_) AllReadyH.nil
            obtain ⟨wq6, hrun, hoS, haS⟩ := store_obj (P := Try.prog) (ty := 43) (n := 7) (cs := (vcells 0 qB 0 p 0 p bb mB db).toList) infoVO rfl rfl (by simp [Value.oneCell']) HTB.out.at_
            have y1 := z1.out
            have y2 := z2.out
            have y3 := z3.out
            have y4 := z4.out
            have y5 := z5.out
            have yA := HTAs.out
            have yB := HTBs.out
            have ya := gAe.out
            have yb := gBe.out
            refine step_store_at 43 (.tmp 14) (.tmp 39) rfl rfl _ _ rfl rfl wq6 hrun ?_
            replace QA := hide (QA.out.aside haS (fun b off e => by have := NA.out b off e; omega))
            replace QB := hide (QB.out.aside haS (fun b off e => by have := NB.out b off e; omega))
            replace HGA := hide (HGA.out.apart haS (by omega))
            have HGB := hide ((show OAt wq6 gB (vobj 0 qB 0 p 0 p bb mB db) from OAt.of hoS))
            have HBB := hide (HBA.out.trans (haS.old _ HBA.out.size (by omega)))
            have z6 : Hid (wq5.heap.size ≤ wq6.heap.size) := hide haS.size
            refine hK.out _ _ ((HBA.out.trans (haS.old _ HBA.out.size (by omega)))) (fun hHeld => ?_)
            clear hK K
            refine wpAnyH_done (by kernel_rfl) ?_ _
            refine NoPanic.normal ?_
            go_wp2
            go_meet
            exact ⟨gA, gB, ba, da, bb, db, rfl, rfl, hide ⟨HGA.out, HGB.out, QA.out, QB.out, HBB.out⟩⟩
          · have hbel := below_alloc wq2 (vobj 0 0 0 0 0 0 none 0 0)
            have HTA := hide (OAt.new wq2 (vobj 0 0 0 0 0 0 none 0 0))
            go_simp
            refine hK.out _ _ (HB.out.trans (hbel.mono HB.out.size)) (fun hHeld => ?_)
            clear hK K
            have z3 : Hid ((wq2.alloc (vobj 0 0 0 0 0 0 none 0 0)).heap.size = wq2.heap.size + 1) := hide (by simp)
            generalize wq2.alloc (vobj 0 0 0 0 0 0 none 0 0) = wq3 at hbel HTA hHeld z3 ⊢
            replace HX2 := hide (HX2.out.below hbel)
            replace HG := hide (HG.out.below hbel)
            replace HA2 := hide (HA2.out.below hbel)
            replace HZ22 := hide (HZ22.out.below hbel)
            replace HZ32 := hide (HZ32.out.below hbel)
            replace HC2 := hide (HC2.out.below hbel)
            replace QA := hide (QA.out.below hbel)
            replace HTB := hide (HTB.out.below hbel)
            have HTAs : Hid (V2.heap.size ≤ wq2.heap.size) := hide HB.out.size
            replace HB := hide (HB.out.trans (hbel.mono HB.out.size))
            clear hbel
            obtain ⟨gA, gAe⟩ : ∃ x, Hid (wq2.heap.size = x) := ⟨_, rfl⟩
            rw [gAe.out] at HTA HTAs ⊢
            refine wpAnyH_ready (rs := [5]) (by kernel_rfl) (by simp) ?_
            refine AllReadyH.cons (o := _) rfl (fun K hK => ?_) AllReadyH.nil
            go_simp
            refine (fix_any zs3 ⟨JS.first p, 0, List.replicate n false, List.replicate n false⟩ 36 cap f ao n d S B (some ⟨g1, 0, none⟩) n n (some ⟨g2, 0, none⟩) n n a3_0 a3_1 a3_2 a3_3 a3_4 a3_5 a3_6 len3_6 cap3_6 hc gs ga wq3 HX2.out HG.out HA2.out HZ32.out enters_law HC2.out hnb hSb hv30 hv31 hv32 hv33 hv35).mono ?_
            rintro ea wq4 ⟨bb, db, rfl, r1, e1, hbel⟩
            rw [hst0.out, hwBe.out, hmB.out, hqB.out, show (⟨JS.first p, 0, List.replicate n false, List.replicate n false⟩ : LS).j.ce = 0 from rfl, show (⟨JS.first p, 0, List.replicate n false, List.replicate n false⟩ : LS).j.cr = p from rfl]
            rw [hwBe.out, hmB.out] at r1
            replace HX2 := hide (HX2.out.below hbel)
            replace HG := hide (HG.out.below hbel)
            replace HA2 := hide (HA2.out.below hbel)
            replace HZ22 := hide (HZ22.out.below hbel)
            replace HZ32 := hide (HZ32.out.below hbel)
            replace HC2 := hide (HC2.out.below hbel)
            replace QA := hide (QA.out.below hbel)
            replace HTB := hide (HTB.out.below hbel)
            replace HTA := hide (HTA.out.below hbel)
            replace HB := hide (HB.out.trans (hbel.mono HB.out.size))
            have QB := hide (r1)
            have z4 : Hid (wq3.heap.size ≤ wq4.heap.size) := hide hbel.size
            have NB : Hid (∀ b off, bb = some ⟨b, off, none⟩ → wq3.heap.size ≤ b ∧ b < wq4.heap.size) := hide (fun b off e => ⟨e1 b off e, r1.far (by omega) b off e⟩)
            clear hbel r1 e1
            refine hK.out _ _ (HB.out) (fun hHeld => ?_)
            clear hK K
            refine wpAnyH_ready (rs := [8]) (by kernel_rfl) (by simp) ?_
            refine AllReadyH.cons (o := _) rfl (fun K hK => ?_) AllReadyH.nil
            obtain ⟨wq5, hrun, hoS, haS⟩ := store_obj (P := Try.prog) (ty := 43) (n := 7) (cs := (vcells 0 qA 0 p 0 p ba mA da).toList) infoVO rfl rfl (by simp [Value.oneCell']) HTA.out.at_
            have y1 := z1.out
            have y2 := z2.out
            have y3 := z3.out
            have y4 := z4.out
            have yA := HTAs.out
            have yB := HTBs.out
            have ya := gAe.out
            have yb := gBe.out
            refine step_store_at 43 (.tmp 13) (.tmp 36) rfl rfl _ _ rfl rfl wq5 hrun ?_
            replace QA := hide (QA.out.aside haS (fun b off e => by have := NA.out b off e; omega))
            replace HTB := hide (HTB.out.apart haS (by omega))
            replace QB := hide (QB.out.aside haS (fun b off e => by have := NB.out b off e; omega))
            have HGA := hide ((show OAt wq5 gA (vobj 0 qA 0 p 0 p ba mA da) from OAt.of hoS))
            have HBA := hide (HB.out.trans (haS.old _ HB.out.size (by omega)))
            have z5 : Hid (wq4.heap.size ≤ wq5.heap.size) := hide haS.size
            refine hK.out _ _ ((HB.out.trans (haS.old _ HB.out.size (by omega)))) (fun hHeld => ?_)
            clear hK K
            refine wpAnyH_ready (rs := [9]) (by kernel_rfl) (by simp) ?_
            refine AllReadyH.cons (o := _) rfl (fun K hK => ?_) AllReadyH.nil
            obtain ⟨wq6, hrun, hoS, haS⟩ := store_obj (P := Try.prog) (ty := 43) (n := 7) (cs := (vcells 0 qB 0 p 0 p bb mB db).toList) infoVO rfl rfl (by simp [Value.oneCell']) HTB.out.at_
            have y1 := z1.out
            have y2 := z2.out
            have y3 := z3.out
            have y4 := z4.out
            have y5 := z5.out
            have yA := HTAs.out
            have yB := HTBs.out
            have ya := gAe.out
            have yb := gBe.out
            refine step_store_at 43 (.tmp 14) (.tmp 39) rfl rfl _ _ rfl rfl wq6 hrun ?_
            replace QA := hide (QA.out.aside haS (fun b off e => by have := NA.out b off e; omega))
            replace QB := hide (QB.out.aside haS (fun b off e => by have := NB.out b off e; omega))
            replace HGA := hide (HGA.out.apart haS (by omega))
            have HGB := hide ((show OAt wq6 gB (vobj 0 qB 0 p 0 p bb mB db) from OAt.of hoS))
            have HBB := hide (HBA.out.trans (haS.old _ HBA.out.size (by omega)))
            have z6 : Hid (wq5.heap.size ≤ wq6.heap.size) := hide haS.size
            refine hK.out _ _ ((HBA.out.trans (haS.old _ HBA.out.size (by omega)))) (fun hHeld => ?_)
            clear hK K
            refine wpAnyH_done (by kernel_rfl) ?_ _
            refine NoPanic.normal ?_
            go_wp2
            go_meet
            exact ⟨gA, gB, ba, da, bb, db, rfl, rfl, hide ⟨HGA.out, HGB.out, QA.out, QB.out, HBB.out⟩⟩
      · have hbel := below_alloc w0 (vobj 0 0 0 0 0 0 none 0 0)
        have HTA := hide (OAt.new w0 (vobj 0 0 0 0 0 0 none 0 0))
        go_simp
        refine hK.out _ _ (HB.out.trans (hbel.mono HB.out.size)) (fun hHeld => ?_)
        clear hK K
        have z1 : Hid ((w0.alloc (vobj 0 0 0 0 0 0 none 0 0)).heap.size = w0.heap.size + 1) := hide (by simp)
        generalize w0.alloc (vobj 0 0 0 0 0 0 none 0 0) = wq1 at hbel HTA hHeld z1 ⊢
        replace HX2 := hide (HX2.out.below hbel)
        replace HG := hide (HG.out.below hbel)
        replace HA2 := hide (HA2.out.below hbel)
        replace HZ22 := hide (HZ22.out.below hbel)
        replace HZ32 := hide (HZ32.out.below hbel)
        replace HC2 := hide (HC2.out.below hbel)
        have HTAs : Hid (V2.heap.size ≤ w0.heap.size) := hide HB.out.size
        replace HB := hide (HB.out.trans (hbel.mono HB.out.size))
        clear hbel
        obtain ⟨gA, gAe⟩ : ∃ x, Hid (w0.heap.size = x) := ⟨_, rfl⟩
        rw [gAe.out] at HTA HTAs ⊢
        refine wpAnyH_ready (rs := [2, 7]) (by kernel_rfl) (by simp) ?_
        refine AllReadyH.cons (o := _) rfl (fun K hK => ?_) (AllReadyH.cons (o := _) rfl (fun K hK => ?_) (AllReadyH.nil))
        · go_simp
          refine (fix_any zs2 ⟨JS.first p, 0, List.replicate n false, List.replicate n false⟩ 36 cap f ao n d S B (some ⟨g1, 0, none⟩) n n (some ⟨g2, 0, none⟩) n n a2_0 a2_1 a2_2 a2_3 a2_4 a2_5 a2_6 len2_6 cap2_6 hc gs ga wq1 HX2.out HG.out HA2.out HZ22.out enters_law HC2.out hnb hSb hv20 hv21 hv22 hv23 hv25).mono ?_
          rintro ea wq2 ⟨ba, da, rfl, r1, e1, hbel⟩
          rw [hst0.out, hwAe.out, hmA.out, hqA.out, show (⟨JS.first p, 0, List.replicate n false, List.replicate n false⟩ : LS).j.ce = 0 from rfl, show (⟨JS.first p, 0, List.replicate n false, List.replicate n false⟩ : LS).j.cr = p from rfl]
          rw [hwAe.out, hmA.out] at r1
          replace HX2 := hide (HX2.out.below hbel)
          replace HG := hide (HG.out.below hbel)
          replace HA2 := hide (HA2.out.below hbel)
          replace HZ22 := hide (HZ22.out.below hbel)
          replace HZ32 := hide (HZ32.out.below hbel)
          replace HC2 := hide (HC2.out.below hbel)
          replace HTA := hide (HTA.out.below hbel)
          replace HB := hide (HB.out.trans (hbel.mono HB.out.size))
          have QA := hide (r1)
          have z2 : Hid (wq1.heap.size ≤ wq2.heap.size) := hide hbel.size
          have NA : Hid (∀ b off, ba = some ⟨b, off, none⟩ → wq1.heap.size ≤ b ∧ b < wq2.heap.size) := hide (fun b off e => ⟨e1 b off e, r1.far (by omega) b off e⟩)
          clear hbel r1 e1
          refine hK.out _ _ (HB.out) (fun hHeld => ?_)
          clear hK K
          refine wpAnyH_ready (rs := [5, 7]) (by kernel_rfl) (by simp) ?_
          refine AllReadyH.cons (o := _) rfl (fun K hK => ?_) (AllReadyH.cons (o := _) rfl (fun K hK => ?_) (AllReadyH.nil))
          · go_simp
            refine (fix_any zs3 ⟨JS.first p, 0, List.replicate n false, List.replicate n false⟩ 36 cap f ao n d S B (some ⟨g1, 0, none⟩) n n (some ⟨g2, 0, none⟩) n n a3_0 a3_1 a3_2 a3_3 a3_4 a3_5 a3_6 len3_6 cap3_6 hc gs ga wq2 HX2.out HG.out HA2.out HZ32.out enters_law HC2.out hnb hSb hv30 hv31 hv32 hv33 hv35).mono ?_
            rintro ea wq3 ⟨bb, db, rfl, r1, e1, hbel⟩
            rw [hst0.out, hwBe.out, hmB.out, hqB.out, show (⟨JS.first p, 0, List.replicate n false, List.replicate n false⟩ : LS).j.ce = 0 from rfl, show (⟨JS.first p, 0, List.replicate n false, List.replicate n false⟩ : LS).j.cr = p from rfl]
            rw [hwBe.out, hmB.out] at r1
            replace HX2 := hide (HX2.out.below hbel)
            replace HG := hide (HG.out.below hbel)
            replace HA2 := hide (HA2.out.below hbel)
            replace HZ22 := hide (HZ22.out.below hbel)
            replace HZ32 := hide (HZ32.out.below hbel)
            replace HC2 := hide (HC2.out.below hbel)
            replace HTA := hide (HTA.out.below hbel)
            replace QA := hide (QA.out.below hbel)
            replace HB := hide (HB.out.trans (hbel.mono HB.out.size))
            have QB := hide (r1)
            have z3 : Hid (wq2.heap.size ≤ wq3.heap.size) := hide hbel.size
            have NB : Hid (∀ b off, bb = some ⟨b, off, none⟩ → wq2.heap.size ≤ b ∧ b < wq3.heap.size) := hide (fun b off e => ⟨e1 b off e, r1.far (by omega) b off e⟩)
            clear hbel r1 e1
            refine hK.out _ _ (HB.out) (fun hHeld => ?_)
            clear hK K
            have hbel := below_alloc wq3 (vobj 0 0 0 0 0 0 none 0 0)
            have HTB := hide (OAt.new wq3 (vobj 0 0 0 0 0 0 none 0 0))
            refine wpAnyH_ready (rs := [7]) (by kernel_rfl) (by simp) ?_
            refine AllReadyH.cons (o := _) rfl (fun K hK => ?_) AllReadyH.nil
            go_simp
            refine hK.out _ _ (HB.out.trans (hbel.mono HB.out.size)) (fun hHeld => ?_)
            clear hK K
            have z4 : Hid ((wq3.alloc (vobj 0 0 0 0 0 0 none 0 0)).heap.size = wq3.heap.size + 1) := hide (by simp)
            generalize wq3.alloc (vobj 0 0 0 0 0 0 none 0 0) = wq4 at hbel HTB hHeld z4 ⊢
            replace HX2 := hide (HX2.out.below hbel)
            replace HG := hide (HG.out.below hbel)
            replace HA2 := hide (HA2.out.below hbel)
            replace HZ22 := hide (HZ22.out.below hbel)
            replace HZ32 := hide (HZ32.out.below hbel)
            replace HC2 := hide (HC2.out.below hbel)
            replace HTA := hide (HTA.out.below hbel)
            replace QA := hide (QA.out.below hbel)
            replace QB := hide (QB.out.below hbel)
            have HTBs : Hid (V2.heap.size ≤ wq3.heap.size) := hide HB.out.size
            replace HB := hide (HB.out.trans (hbel.mono HB.out.size))
            clear hbel
            obtain ⟨gB, gBe⟩ : ∃ x, Hid (wq3.heap.size = x) := ⟨_, rfl⟩
            rw [gBe.out] at HTB HTBs ⊢
            refine wpAnyH_ready (rs := [8]) (by kernel_rfl) (by simp) ?_
            refine AllReadyH.cons (o := _) rfl (fun K hK => ?_) AllReadyH.nil
            obtain ⟨wq5, hrun, hoS, haS⟩ := store_obj (P := Try.prog) (ty := 43) (n := 7) (cs := (vcells 0 qA 0 p 0 p ba mA da).toList) infoVO rfl rfl (by simp [Value.oneCell']) HTA.out.at_
            have y1 := z1.out
            have y2 := z2.out
            have y3 := z3.out
            have y4 := z4.out
            have yA := HTAs.out
            have yB := HTBs.out
            have ya := gAe.out
            have yb := gBe.out
            refine step_store_at 43 (.tmp 13) (.tmp 36) rfl rfl _ _ rfl rfl wq5 hrun ?_
            replace QA := hide (QA.out.aside haS (fun b off e => by have := NA.out b off e; omega))
            replace QB := hide (QB.out.aside haS (fun b off e => by have := NB.out b off e; omega))
            replace HTB := hide (HTB.out.apart haS (by omega))
            have HGA := hide ((show OAt wq5 gA (vobj 0 qA 0 p 0 p ba mA da) from OAt.of hoS))
            have HBA := hide (HB.out.trans (haS.old _ HB.out.size (by omega)))
            have z5 : Hid (wq4.heap.size ≤ wq5.heap.size) := hide haS.size
            refine hK.out _ _ ((HB.out.trans (haS.old _ HB.out.size (by omega)))) (fun hHeld => ?_)
            clear hK K
            refine wpAnyH_ready (rs := [9]) (by kernel_rfl) (by simp) ?_
            refine AllReadyH.cons (o := _) rfl (fun K hK => ?_) AllReadyH.nil
            obtain ⟨wq6, hrun, hoS, haS⟩ := store_obj (P := Try.prog) (ty := 43) (n := 7) (cs := (vcells 0 qB 0 p 0 p bb mB db).toList) infoVO rfl rfl (by simp [Value.oneCell']) HTB.out.at_
            have y1 := z1.out
            have y2 := z2.out
            have y3 := z3.out
            have y4 := z4.out
            have y5 := z5.out
            have yA := HTAs.out
            have yB := HTBs.out
            have ya := gAe.out
            have yb := gBe.out
            refine step_store_at 43 (.tmp 14) (.tmp 39) rfl rfl _ _ rfl rfl wq6 hrun ?_
            replace QA := hide (QA.out.aside haS (fun b off e => by have := NA.out b off e; omega))
            replace QB := hide (QB.out.aside haS (fun b off e => by have := NB.out b off e; omega))
            replace HGA := hide (HGA.out.apart haS (by omega))
            have HGB := hide ((show OAt wq6 gB (vobj 0 qB 0 p 0 p bb mB db) from OAt.of hoS))
            have HBB := hide (HBA.out.trans (haS.old _ HBA.out.size (by omega)))
            have z6 : Hid (wq5.heap.size ≤ wq6.heap.size) := hide haS.size
            refine hK.out _ _ ((HBA.out.trans (haS.old _ HBA.out.size (by omega)))) (fun hHeld => ?_)
            clear hK K
            refine wpAnyH_done (by kernel_rfl) ?_ _
            refine NoPanic.normal ?_
            go_wp2
            go_meet
            exact ⟨gA, gB, ba, da, bb, db, rfl, rfl, hide ⟨HGA.out, HGB.out, QA.out, QB.out, HBB.out⟩⟩
          · have hbel := below_alloc wq2 (vobj 0 0 0 0 0 0 none 0 0)
            have HTB := hide (OAt.new wq2 (vobj 0 0 0 0 0 0 none 0 0))
            go_simp
            refine hK.out _ _ (HB.out.trans (hbel.mono HB.out.size)) (fun hHeld => ?_)
            clear hK K
            have z3 : Hid ((wq2.alloc (vobj 0 0 0 0 0 0 none 0 0)).heap.size = wq2.heap.size + 1) := hide (by simp)
            generalize wq2.alloc (vobj 0 0 0 0 0 0 none 0 0) = wq3 at hbel HTB hHeld z3 ⊢
            replace HX2 := hide (HX2.out.below hbel)
            replace HG := hide (HG.out.below hbel)
            replace HA2 := hide (HA2.out.below hbel)
            replace HZ22 := hide (HZ22.out.below hbel)
            replace HZ32 := hide (HZ32.out.below hbel)
            replace HC2 := hide (HC2.out.below hbel)
            replace HTA := hide (HTA.out.below hbel)
            replace QA := hide (QA.out.below hbel)
            have HTBs : Hid (V2.heap.size ≤ wq2.heap.size) := hide HB.out.size
            replace HB := hide (HB.out.trans (hbel.mono HB.out.size))
            clear hbel
            obtain ⟨gB, gBe⟩ : ∃ x, Hid (wq2.heap.size = x) := ⟨_, rfl⟩
            rw [gBe.out] at HTB HTBs ⊢
            refine wpAnyH_ready (rs := [5]) (by kernel_rfl) (by simp) ?_
            refine AllReadyH.cons (o := _) rfl (fun K hK => ?_) AllReadyH.nil
            go_simp
            refine (fix_any zs3 ⟨JS.first p, 0, List.replicate n false, List.replicate n false⟩ 36 cap f ao n d S B (some ⟨g1, 0, none⟩) n n (some ⟨g2, 0, none⟩) n n a3_0 a3_1 a3_2 a3_3 a3_4 a3_5 a3_6 len3_6 cap3_6 hc gs ga wq3 HX2.out HG.out HA2.out HZ32.out enters_law HC2.out hnb hSb hv30 hv31 hv32 hv33 hv35).mono ?_
            rintro ea wq4 ⟨bb, db, rfl, r1, e1, hbel⟩
            rw [hst0.out, hwBe.out, hmB.out, hqB.out, show (⟨JS.first p, 0, List.replicate n false, List.replicate n false⟩ : LS).j.ce = 0 from rfl, show (⟨JS.first p, 0, List.replicate n false, List.replicate n false⟩ : LS).j.cr = p from rfl]
            rw [hwBe.out, hmB.out] at r1
            replace HX2 := hide (HX2.out.below hbel)
            replace HG := hide (HG.out.below hbel)
            replace HA2 := hide (HA2.out.below hbel)
            replace HZ22 := hide (HZ22.out.below hbel)
            replace HZ32 := hide (HZ32.out.below hbel)
            replace HC2 := hide (HC2.out.below hbel)
            replace HTA := hide (HTA.out.below hbel)
            replace QA := hide (QA.out.below hbel)
            replace HTB := hide (HTB.out.below hbel)
            replace HB := hide (HB.out.trans (hbel.mono HB.out.size))
            have QB := hide (r1)
            have z4 : Hid (wq3.heap.size ≤ wq4.heap.size) := hide hbel.size
            have NB : Hid (∀ b off, bb = some ⟨b, off, none⟩ → wq3.heap.size ≤ b ∧ b < wq4.heap.size) := hide (fun b off e => ⟨e1 b off e, r1.far (by omega) b off e⟩)
            clear hbel r1 e1
            refine hK.out _ _ (HB.out) (fun hHeld => ?_)
            clear hK K
            refine wpAnyH_ready (rs := [8]) (by kernel_rfl) (by simp) ?_
            refine AllReadyH.cons (o := _) rfl (fun K hK => ?_) AllReadyH.nil
            obtain ⟨wq5, hrun, hoS, haS⟩ := store_obj (P := Try.prog) (ty := 43) (n := 7) (cs := (vcells 0 qA 0 p 0 p ba mA da).toList) infoVO rfl rfl (by simp [Value.oneCell']) HTA.out.at_
            have y1 := z1.out
            have y2 := z2.out
            have y3 := z3.out
            have y4 := z4.out
            have yA := HTAs.out
            have yB := HTBs.out
            have ya := gAe.out
            have yb := gBe.out
            refine step_store_at 43 (.tmp 13) (.tmp 36) rfl rfl _ _ rfl rfl wq5 hrun ?_
            replace QA := hide (QA.out.aside haS (fun b off e => by have := NA.out b off e; omega))
            replace HTB := hide (HTB.out.apart haS (by omega))
            replace QB := hide (QB.out.aside haS (fun b off e => by have := NB.out b off e; omega))
            have HGA := hide ((show OAt wq5 gA (vobj 0 qA 0 p 0 p ba mA da) from OAt.of hoS))
            have HBA := hide (HB.out.trans (haS.old _ HB.out.size (by omega)))
            have z5 : Hid (wq4.heap.size ≤ wq5.heap.size) := hide haS.size
            refine hK.out _ _ ((HB.out.trans (haS.old _ HB.out.size (by omega)))) (fun hHeld => ?_)
            clear hK K
            refine wpAnyH_ready (rs := [9]) (by kernel_rfl) (by simp) ?_
            refine AllReadyH.cons (o := _) rfl (fun K hK => ?_) AllReadyH.nil
            obtain ⟨wq6, hrun, hoS, haS⟩ := store_obj (P := Try.prog) (ty := 43) (n := 7) (cs := (vcells 0 qB 0 p 0 p bb mB db).toList) infoVO rfl rfl (by simp [Value.oneCell']) HTB.out.at_
            have y1 := z1.out
            have y2 := z2.out
            have y3 := z3.out
            have y4 := z4.out
            have y5 := z5.out
            have yA := HTAs.out
            have yB := HTBs.out
            have ya := gAe.out
            have yb := gBe.out
            refine step_store_at 43 (.tmp 14) (.tmp 39) rfl rfl _ _ rfl rfl wq6 hrun ?_
            replace QA := hide (QA.out.aside haS (fun b off e => by have := NA.out b off e; omega))
            replace QB := hide (QB.out.aside haS (fun b off e => by have := NB.out b off e; omega))
            replace HGA := hide (HGA.out.apart haS (by omega))
            have HGB := hide ((show OAt wq6 gB (vobj 0 qB 0 p 0 p bb mB db) from OAt.of hoS))
            have HBB := hide (HBA.out.trans (haS.old _ HBA.out.size (by omega)))
            have z6 : Hid (wq5.heap.size ≤ wq6.heap.size) := hide haS.size
            refine hK.out _ _ ((HBA.out.trans (haS.old _ HBA.out.size (by omega)))) (fun hHeld => ?_)
            clear hK K
            refine wpAnyH_done (by kernel_rfl) ?_ _
            refine NoPanic.normal ?_
            go_wp2
            go_meet
            exact ⟨gA, gB, ba, da, bb, db, rfl, rfl, hide ⟨HGA.out, HGB.out, QA.out, QB.out, HBB.out⟩⟩
        · have hbel := below_alloc wq1 (vobj 0 0 0 0 0 0 none 0 0)
          have HTB := hide (OAt.new wq1 (vobj 0 0 0 0 0 0 none 0 0))
          go_simp
          refine hK.out _ _ (HB.out.trans (hbel.mono HB.out.size)) (fun hHeld => ?_)
          clear hK K
          have z2 : Hid ((wq1.alloc (vobj 0 0 0 0 0 0 none 0 0)).heap.size = wq1.heap.size + 1) := hide (by simp)
          generalize wq1.alloc (vobj 0 0 0 0 0 0 none 0 0) = wq2 at hbel HTB hHeld z2 ⊢
          replace HX2 := hide (HX2.out.below hbel)
          replace HG := hide (HG.out.below hbel)
          replace HA2 := hide (HA2.out.below hbel)
          replace HZ22 := hide (HZ22.out.below hbel)
          replace HZ32 := hide (HZ32.out.below hbel)
          replace HC2 := hide (HC2.out.below hbel)
          replace HTA := hide (HTA.out.below hbel)
          have HTBs : Hid (V2.heap.size ≤ wq1.heap.size) := hide HB.out.size
          replace HB := hide (HB.out.trans (hbel.mono HB.out.size))
          clear hbel
          obtain ⟨gB, gBe⟩ : ∃ x, Hid (wq1.heap.size = x) := ⟨_, rfl⟩
          rw [gBe.out] at HTB HTBs ⊢
          refine wpAnyH_ready (rs := [2]) (by kernel_rfl) (by simp) ?_
          refine AllReadyH.cons (o := _) rfl (fun K hK => ?_) AllReadyH.nil
          go_simp
          refine (fix_any zs2 ⟨JS.first p, 0, List.replicate n false, List.replicate n false⟩ 36 cap f ao n d S B (some ⟨g1, 0, none⟩) n n (some ⟨g2, 0, none⟩) n n a2_0 a2_1 a2_2 a2_3 a2_4 a2_5 a2_6 len2_6 cap2_6 hc gs ga wq2 HX2.out HG.out HA2.out HZ22.out enters_law HC2.out hnb hSb hv20 hv21 hv22 hv23 hv25).mono ?_
          rintro ea wq3 ⟨ba, da, rfl, r1, e1, hbel⟩
          rw [hst0.out, hwAe.out, hmA.out, hqA.out, show (⟨JS.first p, 0, List.replicate n false, List.replicate n false⟩ : LS).j.ce = 0 from rfl, show (⟨JS.first p, 0, List.replicate n false, List.replicate n false⟩ : LS).j.cr = p from rfl]
          rw [hwAe.out, hmA.out] at r1
          replace HX2 := hide (HX2.out.below hbel)
          replace HG := hide (HG.out.below hbel)
          replace HA2 := hide (HA2.out.below hbel)
          replace HZ22 := hide (HZ22.out.below hbel)
          replace HZ32 := hide (HZ32.out.below hbel)
          replace HC2 := hide (HC2.out.below hbel)
          replace HTA := hide (HTA.out.below hbel)
          replace HTB := hide (HTB.out.below hbel)
          replace HB := hide (HB.out.trans (hbel.mono HB.out.size))
          have QA := hide (r1)
          have z3 : Hid (wq2.heap.size ≤ wq3.heap.size) := hide hbel.size
          have NA : Hid (∀ b off, ba = some ⟨b, off, none⟩ → wq2.heap.size ≤ b ∧ b < wq3.heap.size) := hide (fun b off e => ⟨e1 b off e, r1.far (by omega) b off e⟩)
          clear hbel r1 e1
          refine hK.out _ _ (HB.out) (fun hHeld => ?_)
          clear hK K
          refine wpAnyH_ready (rs := [5]) (by kernel_rfl) (by simp) ?_
          refine AllReadyH.cons (o := _) rfl (fun K hK => ?_) AllReadyH.nil
          go_simp
          refine (fix_any zs3 ⟨JS.first p, 0, List.replicate n false, List.replicate n false⟩ 36 cap f ao n d S B (some ⟨g1, 0, none⟩) n n (some ⟨g2, 0, none⟩) n n a3_0 a3_1 a3_2 a3_3 a3_4 a3_5 a3_6 len3_6 cap3_6 hc gs ga wq3 HX2.out HG.out HA2.out HZ32.out enters_law HC2.out hnb hSb hv30 hv31 hv32 hv33 hv35).mono ?_
          rintro ea wq4 ⟨bb, db, rfl, r1, e1, hbel⟩
          rw [hst0.out, hwBe.out, hmB.out, hqB.out, show (⟨JS.first p, 0, List.replicate n false, List.replicate n false⟩ : LS).j.ce = 0 from rfl, show (⟨JS.first p, 0, List.replicate n false, List.replicate n false⟩ : LS).j.cr = p from rfl]
          rw [hwBe.out, hmB.out] at r1
          replace HX2 := hide (HX2.out.below hbel)
          replace HG := hide (HG.out.below hbel)
          replace HA2 := hide (HA2.out.below hbel)
          replace HZ22 := hide (HZ22.out.below hbel)
          replace HZ32 := hide (HZ32.out.below hbel)
          replace HC2 := hide (HC2.out.below hbel)
          replace HTA := hide (HTA.out.below hbel)
          replace HTB := hide (HTB.out.below hbel)
          replace QA := hide (QA.out.below hbel)
          replace HB := hide (HB.out.trans (hbel.mono HB.out.size))
          have QB := hide (r1)
          have z4 : Hid (wq3.heap.size ≤ wq4.heap.size) := hide hbel.size
          have NB : Hid (∀ b off, bb = some ⟨b, off, none⟩ → wq3.heap.size ≤ b ∧ b < wq4.heap.size) := hide (fun b off e => ⟨e1 b off e, r1.far (by omega) b off e⟩)
          clear hbel r1 e1
          refine hK.out _ _ (HB.out) (fun hHeld => ?_)
          clear hK K
          refine wpAnyH_ready (rs := [8]) (by kernel_rfl) (by simp) ?_
          refine AllReadyH.cons (o := _) rfl (fun K hK => ?_) AllReadyH.nil
          obtain ⟨wq5, hrun, hoS, haS⟩ := store_obj (P := Try.prog) (ty := 43) (n := 7) (cs := (vcells 0 qA 0 p 0 p ba mA da).toList) infoVO rfl rfl (by simp [Value.oneCell']) HTA.out.at_
          have y1 := z1.out
          have y2 := z2.out
          have y3 := z3.out
          have y4 := z4.out
          have yA := HTAs.out
          have yB := HTBs.out
          have ya := gAe.out
          have yb := gBe.out
          refine step_store_at 43 (.tmp 13) (.tmp 36) rfl rfl _ _ rfl rfl wq5 hrun ?_
          replace HTB := hide (HTB.out.apart haS (by omega))
          replace QA := hide (QA.out.aside haS (fun b off e => by have := NA.out b off e; omega))
          replace QB := hide (QB.out.aside haS (fun b off e => by have := NB.out b off e; omega))
          have HGA := hide ((show OAt wq5 gA (vobj 0 qA 0 p 0 p ba mA da) from OAt.of hoS))
          have HBA := hide (HB.out.trans (haS.old _ HB.out.size (by omega)))
          have z5 : Hid (wq4.heap.size ≤ wq5.heap.size) := hide haS.size
          refine hK.out _ _ ((HB.out.trans (haS.old _ HB.out.size (by omega)))) (fun hHeld => ?_)
          clear hK K
          refine wpAnyH_ready (rs := [9]) (by kernel_rfl) (by simp) ?_
          refine AllReadyH.cons (o := _) rfl (fun K hK => ?_) AllReadyH.nil
          obtain ⟨wq6, hrun, hoS, haS⟩ := store_obj (P := Try.prog) (ty := 43) (n := 7) (cs := (vcells 0 qB 0 p 0 p bb mB db).toList) infoVO rfl rfl (by simp [Value.oneCell']) HTB.out.at_
          have y1 := z1.out
          have y2 := z2.out
          have y3 := z3.out
          have y4 := z4.out
          have y5 := z5.out
          have yA := HTAs.out
          have yB := HTBs.out
          have ya := gAe.out
          have yb := gBe.out
          refine step_store_at 43 (.tmp 14) (.tmp 39) rfl rfl _ _ rfl rfl wq6 hrun ?_
          replace QA := hide (QA.out.aside haS (fun b off e => by have := NA.out b off e; omega))
          replace QB := hide (QB.out.aside haS (fun b off e => by have := NB.out b off e; omega))
          replace HGA := hide (HGA.out.apart haS (by omega))
          have HGB := hide ((show OAt wq6 gB (vobj 0 qB 0 p 0 p bb mB db) from OAt.of hoS))
          have HBB := hide (HBA.out.trans (haS.old _ HBA.out.size (by omega)))
          have z6 : Hid (wq5.heap.size ≤ wq6.heap.size) := hide haS.size
          refine hK.out _ _ ((HBA.out.trans (haS.old _ HBA.out.size (by omega)))) (fun hHeld => ?_)
          clear hK K
          refine wpAnyH_done (by kernel_rfl) ?_ _
          refine NoPanic.normal ?_
          go_wp2
          go_meet
          exact ⟨gA, gB, ba, da, bb, db, rfl, rfl, hide ⟨HGA.out, HGB.out, QA.out, QB.out, HBB.out⟩⟩
      · have hbel := below_alloc w0 (vobj 0 0 0 0 0 0 none 0 0)
        have HTB := hide (OAt.new w0 (vobj 0 0 0 0 0 0 none 0 0))
        go_simp
        refine hK.out _ _ (HB.out.trans (hbel.mono HB.out.size)) (fun hHeld => ?_)
        clear hK K
        have z1 : Hid ((w0.alloc (vobj 0 0 0 0 0 0 none 0 0)).heap.size = w0.heap.size + 1) := hide (by simp)
        generalize w0.alloc (vobj 0 0 0 0 0 0 none 0 0) = wq1 at hbel HTB hHeld z1 ⊢
        replace HX2 := hide (HX2.out.below hbel)
        replace HG := hide (HG.out.below hbel)
        replace HA2 := hide (HA2.out.below hbel)
        replace HZ22 := hide (HZ22.out.below hbel)
        replace HZ32 := hide (HZ32.out.below hbel)
        replace HC2 := hide (HC2.out.below hbel)
        have HTBs : Hid (V2.heap.size ≤ w0.heap.size) := hide HB.out.size
        replace HB := hide (HB.out.trans (hbel.mono HB.out.size))
        clear hbel
        obtain ⟨gB, gBe⟩ : ∃ x, Hid (w0.heap.size = x) := ⟨_, rfl⟩
        rw [gBe.out] at HTB HTBs ⊢
        refine wpAnyH_ready (rs := [2, 6]) (by kernel_rfl) (by simp) ?_
        refine AllReadyH.cons (o := _) rfl (fun K hK => ?_) (AllReadyH.cons (o := _) rfl (fun K hK => ?_) (AllReadyH.nil))
        · go_simp
          refine (fix_any zs2 ⟨JS.first p, 0, List.replicate n false, List.replicate n false⟩ 36 cap f ao n d S B (some ⟨g1, 0, none⟩) n n (some ⟨g2, 0, none⟩) n n a2_0 a2_1 a2_2 a2_3 a2_4 a2_5 a2_6 len2_6 cap2_6 hc gs ga wq1 HX2.out HG.out HA2.out HZ22.out enters_law HC2.out hnb hSb hv20 hv21 hv22 hv23 hv25).mono ?_
          rintro ea wq2 ⟨ba, da, rfl, r1, e1, hbel⟩
          rw [hst0.out, hwAe.out, hmA.out, hqA.out, show (⟨JS.first p, 0, List.replicate n false, List.replicate n false⟩ : LS).j.ce = 0 from rfl, show (⟨JS.first p, 0, List.replicate n false, List.replicate n false⟩ : LS).j.cr = p from rfl]
          rw [hwAe.out, hmA.out] at r1
          replace HX2 := hide (HX2.out.below hbel)
          replace HG := hide (HG.out.below hbel)
          replace HA2 := hide (HA2.out.below hbel)
          replace HZ22 := hide (HZ22.out.below hbel)
          replace HZ32 := hide (HZ32.out.below hbel)
          replace HC2 := hide (HC2.out.below hbel)
          replace HTB := hide (HTB.out.below hbel)
          replace HB := hide (HB.out.trans (hbel.mono HB.out.size))
          have QA := hide (r1)
          have z2 : Hid (wq1.heap.size ≤ wq2.heap.size) := hide hbel.size
          have NA : Hid (∀ b off, ba = some ⟨b, off, none⟩ → wq1.heap.size ≤ b ∧ b < wq2.heap.size) := hide (fun b off e => ⟨e1 b off e, r1.far (by omega) b off e⟩)
          clear hbel r1 e1
          refine hK.out _ _ (HB.out) (fun hHeld => ?_)
          clear hK K
          refine wpAnyH_ready (rs := [5, 6]) (by kernel_rfl) (by simp) ?_
          refine AllReadyH.cons (o := _) rfl (fun K hK => ?_) (AllReadyH.cons (o := _) rfl (fun K hK => ?_) (AllReadyH.nil))
          · go_simp
            refine (fix_any zs3 ⟨JS.first p, 0, List.replicate n false, List.replicate n false⟩ 36 cap f ao n d S B (some ⟨g1, 0, none⟩) n n (some ⟨g2, 0, none⟩) n n a3_0 a3_1 a3_2 a3_3 a3_4 a3_5 a3_6 len3_6 cap3_6 hc gs ga wq2 HX2.out HG.out HA2.out HZ32.out enters_law HC2.out hnb hSb hv30 hv31 hv32 hv33 hv35).mono ?_
            rintro ea wq3 ⟨bb, db, rfl, r1, e1, hbel⟩
            rw [hst0.out, hwBe.out, hmB.out, hqB.out, show (⟨JS.first p, 0, List.replicate n false, List.replicate n false⟩ : LS).j.ce = 0 from rfl, show (⟨JS.first p, 0, List.replicate n false, List.replicate n false⟩ : LS).j.cr = p from rfl]
            rw [hwBe.out, hmB.out] at r1
            replace HX2 := hide (HX2.out.below hbel)
            replace HG := hide (HG.out.below hbel)
            replace HA2 := hide (HA2.out.below hbel)
            replace HZ22 := hide (HZ22.out.below hbel)
            replace HZ32 := hide (HZ32.out.below hbel)
            replace HC2 := hide (HC2.out.below hbel)
            replace HTB := hide (HTB.out.below hbel)
            replace QA := hide (QA.out.below hbel)
            replace HB := hide (HB.out.trans (hbel.mono HB.out.size))
            have QB := hide (r1)
            have z3 : Hid (wq2.heap.size ≤ wq3.heap.size) := hide hbel.size
            have NB : Hid (∀ b off, bb = some ⟨b, off, none⟩ → wq2.heap.size ≤ b ∧ b < wq3.heap.size) := hide (fun b off e => ⟨e1 b off e, r1.far (by omega) b off e⟩)
            clear hbel r1 e1
            refine hK.out _ _ (HB.out) (fun hHeld => ?_)
            clear hK K
            have hbel := below_alloc wq3 (vobj 0 0 0 0 0 0 none 0 0)
            have HTA := hide (OAt.new wq3 (vobj 0 0 0 0 0 0 none 0 0))
            refine wpAnyH_ready (rs := [6]) (by kernel_rfl) (by simp) ?_
            refine AllReadyH.cons (o := _) rfl (fun K hK => ?_) AllReadyH.nil
            go_simp
            refine hK.out _ _ (HB.out.trans (hbel.mono HB.out.size)) (fun hHeld => ?_)
            clear hK K
            have z4 : Hid ((wq3.alloc (vobj 0 0 0 0 0 0 none 0 0)).heap.size = wq3.heap.size + 1) := hide (by simp)
            generalize wq3.alloc (vobj 0 0 0 0 0 0 none 0 0) = wq4 at hbel HTA hHeld z4 ⊢
            replace HX2 := hide (HX2.out.below hbel)
            replace HG := hide (HG.out.below hbel)
            replace HA2 := hide (HA2.out.below hbel)
            replace HZ22 := hide (HZ22.out.below hbel)
            replace HZ32 := hide (HZ32.out.below hbel)
            replace HC2 := hide (HC2.out.below hbel)
            replace HTB := hide (HTB.out.below hbel)
            replace QA := hide (QA.out.below hbel)
            replace QB := hide (QB.out.below hbel)
            have HTAs : Hid (V2.heap.size ≤ wq3.heap.size) := hide HB.out.size
            replace HB := hide (HB.out.trans (hbel.mono HB.out.size))
            clear hbel
            obtain ⟨gA, gAe⟩ : ∃ x, Hid (wq3.heap.size = x) := ⟨_, rfl⟩
            rw [gAe.out] at HTA HTAs ⊢
            refine wpAnyH_ready (rs := [8]) (by kernel_rfl) (by simp) ?_
            refine AllReadyH.cons (o := _) rfl (fun K hK => ?_) AllReadyH.nil
            obtain ⟨wq5, hrun, hoS, haS⟩ := store_obj (P := Try.prog) (ty := 43) (n := 7) (cs := (vcells 0 qA 0 p 0 p ba mA da).toList) infoVO rfl rfl (by simp [Value.oneCell']) HTA.out.at_
            have y1 := z1.out
            have y2 := z2.out
            have y3 := z3.out
            have y4 := z4.out
            have yA := HTAs.out
            have yB := HTBs.out
            have ya := gAe.out
            have yb := gBe.out
            refine step_store_at 43 (.tmp 13) (.tmp 36) rfl rfl _ _ rfl rfl wq5 hrun ?_
            replace HTB := hide (HTB.out.apart haS (by omega))
            replace QA := hide (QA.out.aside haS (fun b off e => by have := NA.out b off e; omega))
            replace QB := hide (QB.out.aside haS (fun b off e => by have := NB.out b off e; omega))
            have HGA := hide ((show OAt wq5 gA (vobj 0 qA 0 p 0 p ba mA da) from OAt.of hoS))
            have HBA := hide (HB.out.trans (haS.old _ HB.out.size (by omega)))
            have z5 : Hid (wq4.heap.size ≤ wq5.heap.size) := hide haS.size
            refine hK.out _ _ ((HB.out.trans (haS.old _ HB.out.size (by omega)))) (fun hHeld => ?_)
            clear hK K
            refine wpAnyH_ready (rs := [9]) (by kernel_rfl) (by simp) ?_
            refine AllReadyH.cons (o := _) rfl (fun K hK => ?_) AllReadyH.nil
            obtain ⟨wq6, hrun, hoS, haS⟩ := store_obj (P := Try.prog) (ty := 43) (n := 7) (cs := (vcells 0 qB 0 p 0 p bb mB db).toList) infoVO rfl rfl (by simp [Value.oneCell']) HTB.out.at_
            have y1 := z1.out
            have y2 := z2.out
            have y3 := z3.out
            have y4 := z4.out
            have y5 := z5.out
            have yA := HTAs.out
            have yB := HTBs.out
            have ya := gAe.out
            have yb := gBe.out
            refine step_store_at 43 (.tmp 14) (.tmp 39) rfl rfl _ _ rfl rfl wq6 hrun ?_
            replace QA := hide (QA.out.aside haS (fun b off e => by have := NA.out b off e; omega))
            replace QB := hide (QB.out.aside haS (fun b off e => by have := NB.out b off e; omega))
            replace HGA := hide (HGA.out.apart haS (by omega))
            have HGB := hide ((show OAt wq6 gB (vobj 0 qB 0 p 0 p bb mB db) from OAt.of hoS))
            have HBB := hide (HBA.out.trans (haS.old _ HBA.out.size (by omega)))
            have z6 : Hid (wq5.heap.size ≤ wq6.heap.size) := hide haS.size
            refine hK.out _ _ ((HBA.out.trans (haS.old _ HBA.out.size (by omega)))) (fun hHeld => ?_)
            clear hK K
            refine wpAnyH_done (by kernel_rfl) ?_ _
            refine NoPanic.normal ?_
            go_wp2
            go_meet
            exact ⟨gA, gB, ba, da, bb, db, rfl, rfl, hide ⟨HGA.out, HGB.out, QA.out, QB.out, HBB.out⟩⟩
          · have hbel := below_alloc wq2 (vobj 0 0 0 0 0 0 none 0 0)
            have HTA := hide (OAt.new wq2 (vobj 0 0 0 0 0 0 none 0 0))
            go_simp
            refine hK.out _ _ (HB.out.trans (hbel.mono HB.out.size)) (fun hHeld => ?_)
            clear hK K
            have z3 : Hid ((wq2.alloc (vobj 0 0 0 0 0 0 none 0 0)).heap.size = wq2.heap.size + 1) := hide (by simp)
            generalize wq2.alloc (vobj 0 0 0 0 0 0 none 0 0) = wq3 at hbel HTA hHeld z3 ⊢
            replace HX2 := hide (HX2.out.below hbel)
            replace HG := hide (HG.out.below hbel)
            replace HA2 := hide (HA2.out.below hbel)
            replace HZ22 := hide (HZ22.out.below hbel)
            replace HZ32 := hide (HZ32.out.below hbel)
            replace HC2 := hide (HC2.out.below hbel)
            replace HTB := hide (HTB.out.below hbel)
            replace QA := hide (QA.out.below hbel)
            have HTAs : Hid (V2.heap.size ≤ wq2.heap.size) := hide HB.out.size
            replace HB := hide (HB.out.trans (hbel.mono HB.out.size))
            clear hbel
            obtain ⟨gA, gAe⟩ : ∃ x, Hid (wq2.heap.size = x) := ⟨_, rfl⟩
            rw [gAe.out] at HTA HTAs ⊢
            refine wpAnyH_ready (rs := [5]) (by kernel_rfl) (by simp) ?_
            refine AllReadyH.cons (o := _) rfl (fun K hK => ?_) AllReadyH.nil
            go_simp
            refine (fix_any zs3 ⟨JS.first p, 0, List.replicate n false, List.replicate n false⟩ 36 cap f ao n d S B (some ⟨g1, 0, none⟩) n n (some ⟨g2, 0, none⟩) n n a3_0 a3_1 a3_2 a3_3 a3_4 a3_5 a3_6 len3_6 cap3_6 hc gs ga wq3 HX2.out HG.out HA2.out HZ32.out enters_law HC2.out hnb hSb hv30 hv31 hv32 hv33 hv35).mono ?_
            rintro ea wq4 ⟨bb, db, rfl, r1, e1, hbel⟩
            rw [hst0.out, hwBe.out, hmB.out, hqB.out, show (⟨JS.first p, 0, List.replicate n false, List.replicate n false⟩ : LS).j.ce = 0 from rfl, show (⟨JS.first p, 0, List.replicate n false, List.replicate n false⟩ : LS).j.cr = p from rfl]
            rw [hwBe.out, hmB.out] at r1
            replace HX2 := hide (HX2.out.below hbel)
            replace HG := hide (HG.out.below hbel)
            replace HA2 := hide (HA2.out.below hbel)
            replace HZ22 := hide (HZ22.out.below hbel)
            replace HZ32 := hide (HZ32.out.below hbel)
            replace HC2 := hide (HC2.out.below hbel)
            replace HTB := hide (HTB.out.below hbel)
            replace QA := hide (QA.out.below hbel)
            replace HTA := hide (HTA.out.below hbel)
            replace HB := hide (HB.out.trans (hbel.mono HB.out.size))
            have QB := hide (r1)
            have z4 : Hid (wq3.heap.size ≤ wq4.heap.size) := hide hbel.size
            have NB : Hid (∀ b off, bb = some ⟨b, off, none⟩ → wq3.heap.size ≤ b ∧ b < wq4.heap.size) := hide (fun b off e => ⟨e1 b off e, r1.far (by omega) b off e⟩)
            clear hbel r1 e1
            refine hK.out _ _ (HB.out) (fun hHeld => ?_)
            clear hK K
            refine wpAnyH_ready (rs := [8]) (by kernel_rfl) (by simp) ?_
            refine AllReadyH.cons (o := _) rfl (fun K hK => ?_) AllReadyH.nil
            obtain ⟨wq5, hrun, hoS, haS⟩ := store_obj (P := Try.prog) (ty := 43) (n := 7) (cs := (vcells 0 qA 0 p 0 p ba mA da).toList) infoVO rfl rfl (by simp [Value.oneCell']) HTA.out.at_
            have y1 := z1.out
            have y2 := z2.out
            have y3 := z3.out
            have y4 := z4.out
            have yA := HTAs.out
            have yB := HTBs.out
            have ya := gAe.out
            have yb := gBe.out
            refine step_store_at 43 (.tmp 13) (.tmp 36) rfl rfl _ _ rfl rfl wq5 hrun ?_
            replace HTB := hide (HTB.out.apart haS (by omega))
            replace QA := hide (QA.out.aside haS (fun b off e => by have := NA.out b off e; omega))
            replace QB := hide (QB.out.aside haS (fun b off e => by have := NB.out b off e; omega))
            have HGA := hide ((show OAt wq5 gA (vobj 0 qA 0 p 0 p ba mA da) from OAt.of hoS))
            have HBA := hide (HB.out.trans (haS.old _ HB.out.size (by omega)))
            have z5 : Hid (wq4.heap.size ≤ wq5.heap.size) := hide haS.size
            refine hK.out _ _ ((HB.out.trans (haS.old _ HB.out.size (by omega)))) (fun hHeld => ?_)
            clear hK K
            refine wpAnyH_ready (rs := [9]) (by kernel_rfl) (by simp) ?_
            refine AllReadyH.cons (o := _) rfl (fun K hK => ?_) AllReadyH.nil
            obtain ⟨wq6, hrun, hoS, haS⟩ := store_obj (P := Try.prog) (ty := 43) (n := 7) (cs := (vcells 0 qB 0 p 0 p bb mB db).toList) infoVO rfl rfl (by simp [Value.oneCell']) HTB.out.at_
            have y1 := z1.out
            have y2 := z2.out
            have y3 := z3.out
            have y4 := z4.out
            have y5 := z5.out
            have yA := HTAs.out
            have yB := HTBs.out
            have ya := gAe.out
            have yb := gBe.out
            refine step_store_at 43 (.tmp 14) (.tmp 39) rfl rfl _ _ rfl rfl wq6 hrun ?_
            replace QA := hide (QA.out.aside haS (fun b off e => by have := NA.out b off e; omega))
            replace QB := hide (QB.out.aside haS (fun b off e => by have := NB.out b off e; omega))
            replace HGA := hide (HGA.out.apart haS (by omega))
            have HGB := hide ((show OAt wq6 gB (vobj 0 qB 0 p 0 p bb mB db) from OAt.of hoS))
            have HBB := hide (HBA.out.trans (haS.old _ HBA.out.size (by omega)))
            have z6 : Hid (wq5.heap.size ≤ wq6.heap.size) := hide haS.size
            refine hK.out _ _ ((HBA.out.trans (haS.old _ HBA.out.size (by omega)))) (fun hHeld => ?_)
            clear hK K
            refine wpAnyH_done (by kernel_rfl) ?_ _
            refine NoPanic.normal ?_
            go_wp2
            go_meet
            exact ⟨gA, gB, ba, da, bb, db, rfl, rfl, hide ⟨HGA.out, HGB.out, QA.out, QB.out, HBB.out⟩⟩
        · have hbel := below_alloc wq1 (vobj 0 0 0 0 0 0 none 0 0)
          have HTA := hide (OAt.new wq1 (vobj 0 0 0 0 0 0 none 0 0))
          go_simp
          refine hK.out _ _ (HB.out.trans (hbel.mono HB.out.size)) (fun hHeld => ?_)
          clear hK K
          have z2 : Hid ((wq1.alloc (vobj 0 0 0 0 0 0 none 0 0)).heap.size = wq1.heap.size + 1) := hide (by simp)
          generalize wq1.alloc (vobj 0 0 0 0 0 0 none 0 0) = wq2 at hbel HTA hHeld z2 ⊢
          replace HX2 := hide (HX2.out.below hbel)
          replace HG := hide (HG.out.below hbel)
          replace HA2 := hide (HA2.out.below hbel)
          replace HZ22 := hide (HZ22.out.below hbel)
          replace HZ32 := hide (HZ32.out.below hbel)
          replace HC2 := hide (HC2.out.below hbel)
          replace HTB := hide (HTB.out.below hbel)
          have HTAs : Hid (V2.heap.size ≤ wq1.heap.size) := hide HB.out.size
          replace HB := hide (HB.out.trans (hbel.mono HB.out.size))
          clear hbel
          obtain ⟨gA, gAe⟩ : ∃ x, Hid (wq1.heap.size = x) := ⟨_, rfl⟩
          rw [gAe.out] at HTA HTAs ⊢
          refine wpAnyH_ready (rs := [2]) (by kernel_rfl) (by simp) ?_
          refine AllReadyH.cons (o := _) rfl (fun K hK => ?_) AllReadyH.nil
          go_simp
          refine (fix_any zs2 ⟨JS.first p, 0, List.replicate n false, List.replicate n false⟩ 36 cap f ao n d S B (some ⟨g1, 0, none⟩) n n (some ⟨g2, 0, none⟩) n n a2_0 a2_1 a2_2 a2_3 a2_4 a2_5 a2_6 len2_6 cap2_6 hc gs ga wq2 HX2.out HG.out HA2.out HZ22.out enters_law HC2.out hnb hSb hv20 hv21 hv22 hv23 hv25).mono ?_
          rintro ea wq3 ⟨ba, da, rfl, r1, e1, hbel⟩
          rw [hst0.out, hwAe.out, hmA.out, hqA.out, show (⟨JS.first p, 0, List.replicate n false, List.replicate n false⟩ : LS).j.ce = 0 from rfl, show (⟨JS.first p, 0, List.replicate n false, List.replicate n false⟩ : LS).j.cr = p from rfl]
          rw [hwAe.out, hmA.out] at r1
          replace HX2 := hide (HX2.out.below hbel)
          replace HG := hide (HG.out.below hbel)
          replace HA2 := hide (HA2.out.below hbel)
          replace HZ22 := hide (HZ22.out.below hbel)
          replace HZ32 := hide (HZ32.out.below hbel)
          replace HC2 := hide (HC2.out.below hbel)
          replace HTB := hide (HTB.out.below hbel)
          replace HTA := hide (HTA.out.below hbel)
          replace HB := hide (HB.out.trans (hbel.mono HB.out.size))
          have QA := hide (r1)
          have z3 : Hid (wq2.heap.size ≤ wq3.heap.size) := hide hbel.size
          have NA : Hid (∀ b off, ba = some ⟨b, off, none⟩ → wq2.heap.size ≤ b ∧ b < wq3.heap.size) := hide (fun b off e => ⟨e1 b off e, r1.far (by omega) b off e⟩)
          clear hbel r1 e1
          refine hK.out _ _ (HB.out) (fun hHeld => ?_)
          clear hK K
          refine wpAnyH_ready (rs := [5]) (by kernel_rfl) (by simp) ?_
          refine AllReadyH.cons (o := _) rfl (fun K hK => ?_) AllReadyH.nil
          go_simp
          refine (fix_any zs3 ⟨JS.first p, 0, List.replicate n false, List.replicate n false⟩ 36 cap f ao n d S B (some ⟨g1, 0, none⟩) n n (some ⟨g2, 0, none⟩) n n a3_0 a3_1 a3_2 a3_3 a3_4 a3_5 a3_6 len3_6 cap3_6 hc gs ga wq3 HX2.out HG.out HA2.out HZ32.out enters_law HC2.out hnb hSb hv30 hv31 hv32 hv33 hv35).mono ?_
          rintro ea wq4 ⟨bb, db, rfl, r1, e1, hbel⟩
          rw [hst0.out, hwBe.out, hmB.out, hqB.out, show (⟨JS.first p, 0, List.replicate n false, List.replicate n false⟩ : LS).j.ce = 0 from rfl, show (⟨JS.first p, 0, List.replicate n false, List.replicate n false⟩ : LS).j.cr = p from rfl]
          rw [hwBe.out, hmB.out] at r1
          replace HX2 := hide (HX2.out.below hbel)
          replace HG := hide (HG.out.below hbel)
          replace HA2 := hide (HA2.out.below hbel)
          replace HZ22 := hide (HZ22.out.below hbel)
          replace HZ32 := hide (HZ32.out.below hbel)
          replace HC2 := hide (HC2.out.below hbel)
          replace HTB := hide (HTB.out.below hbel)
          replace HTA := hide (HTA.out.below hbel)
          replace QA := hide (QA.out.below hbel)
          replace HB := hide (HB.out.trans (hbel.mono HB.out.size))
          have QB := hide (r1)
          have z4 : Hid (wq3.heap.size ≤ wq4.heap.size) := hide hbel.size
          have NB : Hid (∀ b off, bb = some ⟨b, off, none⟩ → wq3.heap.size ≤ b ∧ b < wq4.heap.size) := hide (fun b off e => ⟨e1 b off e, r1.far (by omega) b off e⟩)
          clear hbel r1 e1
          refine hK.out _ _ (HB.out) (fun hHeld => ?_)
          clear hK K
          refine wpAnyH_ready (rs := [8]) (by kernel_rfl) (by simp) ?_
          refine AllReadyH.cons (o := _) rfl (fun K hK => ?_) AllReadyH.nil
          obtain ⟨wq5, hrun, hoS, haS⟩ := store_obj (P := Try.prog) (ty := 43) (n := 7) (cs := (vcells 0 qA 0 p 0 p ba mA da).toList) infoVO rfl rfl (by simp [Value.oneCell']) HTA.out.at_
          have y1 := z1.out
          have y2 := z2.out
          have y3 := z3.out
          have y4 := z4.out
          have yA := HTAs.out
          have yB := HTBs.out
          have ya := gAe.out
          have yb := gBe.out
          refine step_store_at 43 (.tmp 13) (.tmp 36) rfl rfl _ _ rfl rfl wq5 hrun ?_
          replace HTB := hide (HTB.out.apart haS (by omega))
          replace QA := hide (QA.out.aside haS (fun b off e => by have := NA.out b off e; omega))
          replace QB := hide (QB.out.aside haS (fun b off e => by have := NB.out b off e; omega))
          have HGA := hide ((show OAt wq5 gA (vobj 0 qA 0 p 0 p ba mA da) from OAt.of hoS))
          have HBA := hide (HB.out.trans (haS.old _ HB.out.size (by omega)))
          have z5 : Hid (wq4.heap.size ≤ wq5.heap.size) := hide haS.size
          refine hK.out _ _ ((HB.out.trans (haS.old _ HB.out.size (by omega)))) (fun hHeld => ?_)
          clear hK K
          refine wpAnyH_ready (rs := [9]) (by kernel_rfl) (by simp) ?_
          refine AllReadyH.cons (o := _) rfl (fun K hK => ?_) AllReadyH.nil
          obtain ⟨wq6, hrun, hoS, haS⟩ := store_obj (P := Try.prog) (ty := 43) (n := 7) (cs := (vcells 0 qB 0 p 0 p bb mB db).toList) infoVO rfl rfl (by simp [Value.oneCell']) HTB.out.at_
          have y1 := z1.out
          have y2 := z2.out
          have y3 := z3.out
          have y4 := z4.out
          have y5 := z5.out
          have yA := HTAs.out
          have yB := HTBs.out
          have ya := gAe.out
          have yb := gBe.out
          refine step_store_at 43 (.tmp 14) (.tmp 39) rfl rfl _ _ rfl rfl wq6 hrun ?_
          replace QA := hide (QA.out.aside haS (fun b off e => by have := NA.out b off e; omega))
          replace QB := hide (QB.out.aside haS (fun b off e => by have := NB.out b off e; omega))
          replace HGA := hide (HGA.out.apart haS (by omega))
          have HGB := hide ((show OAt wq6 gB (vobj 0 qB 0 p 0 p bb mB db) from OAt.of hoS))
          have HBB := hide (HBA.out.trans (haS.old _ HBA.out.size (by omega)))
          have z6 : Hid (wq5.heap.size ≤ wq6.heap.size) := hide haS.size
          refine hK.out _ _ ((HBA.out.trans (haS.old _ HBA.out.size (by omega)))) (fun hHeld => ?_)
          clear hK K
          refine wpAnyH_done (by kernel_rfl) ?_ _
          refine NoPanic.normal ?_
          go_wp2
          go_meet
          exact ⟨gA, gB, ba, da, bb, db, rfl, rfl, hide ⟨HGA.out, HGB.out, QA.out, QB.out, HBB.out⟩⟩
    case rest =>
      obtain ⟨gA, gB, ba, da, bb, db, rfl, rfl, hcc⟩ := hcut
      obtain ⟨hGA, hGB, hQA, hQB, hbel⟩ := hcc.out
      obtain ⟨V3, rfl⟩ : ∃ x, x = wc := ⟨_, rfl⟩
      have HX3 := hide (HX2.out.below hbel)
      have HA3 := hide (HA2.out.below hbel)
      have HR3 := hide (HR2.out.below hbel)
      have HC3 := hide (HC2.out.below hbel)
      have HN3 := hide (HN2.out.trans (hbel.mono HN2.out.size))
      have HS3 := hide (HG.out.below hbel)
      have HS31 := hide (HB1.out.below hbel)
      have HS32 := hide (HB2.out.below hbel)
      have HGA := hide hGA
      have HGB := hide hGB
      have HQA := hide hQA
      have HQB := hide hQB
      clear hcc hGA hGB hQA hQB hbel HX2 HA2 HR2 HC2 HN2 HG HB1 HB2 HV22 HV32 HZ22 HZ32 hv2s hv3s hen2 hwAe hwBe hqA hqB
      have HC1 := hide (keep_cnt n S f p (List.replicate n false) qA wA hSb.1 hwA.out hst0.out)
      have HC2' := hide (keep_cnt n S f p (mark (List.replicate n false) wA) qB wB hSb.1 hwB.out hst0.out)
      have HC3' := hide (keep_cnt n S f p (List.replicate n false) qB wB hSb.1 hwB.out hst0.out)
      have HC4 := hide (keep_cnt n S f p (mark (List.replicate n false) wB) qA wA hSb.1 hwA.out hst0.out)
      have HC5 := hide (keep_cnt n S f p (mark (List.replicate n false) wA) qA wA hSb.1 hwA.out hst0.out)
      have hll : (List.replicate n false).length = n := List.length_replicate
      rw [← mark_comm (List.replicate n false) wA wB (by rw [hll]; exact hmA'.out) (by rw [hll]; exact hmB'.out)] at HC4
      rw [mark_twice (List.replicate n false) wA (by rw [hll]; exact hmA'.out)] at HC5
      obtain ⟨L0, hL0⟩ : ∃ x, List.replicate n false = x := ⟨_, rfl⟩
      rw [hL0] at HC1 HC2' HC3' HC4 HC5 HS31 HS32
      obtain ⟨U1, hU1⟩ : ∃ x, mark L0 wA = x := ⟨_, rfl⟩
      rw [hU1] at HC1 HC2' HC4 HC5
      obtain ⟨U2, hU2⟩ : ∃ x, mark U1 wB = x := ⟨_, rfl⟩
      rw [hU2] at HC2' HC4
      obtain ⟨U3, hU3⟩ : ∃ x, mark L0 wB = x := ⟨_, rfl⟩
      rw [hU3] at HC3' HC4
      clear hU1 hU2 hU3 hll hwA hwB hmA' hmB'
      have HB := hide (Below.refl V3.heap.size V3)
      have HOS := hide HS3.out
      have HK1S := hide HS31.out
      have HK2S := hide HS32.out
      have HBS : Hid (gs < V3.heap.size ∧ g1 < V3.heap.size ∧ g2 < V3.heap.size) := hide ⟨HS3.out.lt, HS31.out.far hn0.1 g1 0 rfl, HS32.out.far hn0.1 g2 0 rfl⟩
      go_upto_region 8 with fail
      have hX := HX3.out.below HB.out
      have hA0 := (HA3.out.below HB.out).cell 0
      have q0 := hX.cell 0
      have q1 := hX.cell 1
      have q2 := hX.cell 2
      simp only [List.getElem?_toArray, List.getElem?_cons_zero, List.getElem?_cons_succ] at q0 q1 q2 hA0
      have LD := hide (load_obj Try.underlying39 infoLS rfl HOS.out.at_)
      have LV := hide (load_obj Try.underlying43 infoVO rfl (HGA.out.below HB.out).at_)
      have HCN := hide (cnt_led ⟨JS.first p, 0, L0, L0⟩ wA 36 cap f ao n d S B (some ⟨g1, 0, none⟩) n (some ⟨g2, 0, none⟩) n 0 qA 0 p 0 p ba mA da V3 HK1S.out HK2S.out (HQA.out.below HB.out) hn0 enters_law (HC3.out.below HB.out) hi0 hSi hi0 hi0)
      rw [HC1.out.1, HC1.out.2] at HCN
      clear hX
      go_wp2_with (first | refine wpList_load_at 39 (.tmp 11) rfl rfl _ rfl _ LD.out ?_ | refine wpList_load_at 43 (.tmp 13) rfl rfl _ rfl _ LV.out ?_)
      refine HCN.out.mono ?_
      rintro ec v5P ⟨b1P, d1P, b2P, d2P, rfl, r1, r2, e1, e2, hbel⟩
      have HT := OAt.new v5P (lobj jz 0 none 0 0 none 0 0)
      obtain ⟨v6P, hrun, ho6, ha6⟩ := store_obj (P := Try.prog) (ty := 39) (n := 13) (cs := (lcells (JS.first p) 0 b1P n d1P b2P n d2P).toList) infoLS rfl rfl (lcells_one _ _ _ _ _ _ _ _) HT.at_
      have hb6 : Below v5P.heap.size v5P v6P := (below_alloc v5P (lobj jz 0 none 0 0 none 0 0)).trans (ha6.old v5P.heap.size (by simp) (Nat.le_refl _))
      have hbw : Below V3.heap.size V3 v6P := hbel.trans (hb6.mono hbel.size)
      obtain ⟨gP, hgP⟩ : ∃ x, Hid (v5P.heap.size = x) := ⟨_, rfl⟩
      have HOP : Hid (OAt v6P gP (lobj (JS.first p) 0 b1P n d1P b2P n d2P)) := by rw [← hgP.out]; exact OAt.of ho6
      have HK1P := hide (r1.below hb6)
      have HK2P := hide (r2.below hb6)
      have HM1P : Hid (∀ b off, b1P = some ⟨b, off, none⟩ → b < gP) := hide fun b off e => by rw [← hgP.out]; exact r1.far hn0.1 b off e
      have HM2P : Hid (∀ b off, b2P = some ⟨b, off, none⟩ → b < gP) := hide fun b off e => by rw [← hgP.out]; exact r2.far hn0.1 b off e
      have HLP : Hid (V3.heap.size ≤ gP ∧ gP < v6P.heap.size) := by rw [← hgP.out]; exact hide ⟨hbel.size, (by have h := OAt.of ho6; exact h.lt)⟩
      replace HOS := hide (HOS.out.below hbw)
      replace HK1S := hide (HK1S.out.below hbw)
      replace HK2S := hide (HK2S.out.below hbw)
      replace HB := hide (HB.out.trans (hbw.mono HB.out.size))
      have hrun' := hide hrun
      clear LD LV HCN r1 r2 e1 e2 hbel HT hrun ho6 ha6 hb6 hbw q0 q1 q2 hA0
      go_upto_region 9 with (refine wpList_store_at 39 (.tmp 15) (.tmp 46) rfl rfl _ _ rfl rfl v6P hrun'.out ?_)
      rw [hgP.out]
      clear hrun' hgP
      have hX := HX3.out.below HB.out
      have hA0 := (HA3.out.below HB.out).cell 0
      have q0 := hX.cell 0
      have q1 := hX.cell 1
      have q2 := hX.cell 2
      simp only [List.getElem?_toArray, List.getElem?_cons_zero, List.getElem?_cons_succ] at q0 q1 q2 hA0
      have LD := hide (load_obj Try.underlying39 infoLS rfl HOP.out.at_)
      have LV := hide (load_obj Try.underlying43 infoVO rfl (HGB.out.below HB.out).at_)
      have HCN := hide (cnt_led ⟨JS.first p, 0, L0, U1⟩ wB 36 cap f ao n d S B b1P d1P b2P d2P 0 qB 0 p 0 p bb mB db v6P HK1P.out HK2P.out (HQB.out.below HB.out) hn0 enters_law (HC3.out.below HB.out) hi0 hSi hi0 hi0)
      rw [HC2'.out.1, HC2'.out.2] at HCN
      clear hX
      go_wp2_with (first | refine wpList_load_at 39 (.tmp 15) rfl rfl _ rfl _ LD.out ?_ | refine wpList_load_at 43 (.tmp 14) rfl rfl _ rfl _ LV.out ?_)
      refine HCN.out.mono ?_
      rintro ec v5Q ⟨b1Q, d1Q, b2Q, d2Q, rfl, r1, r2, e1, e2, hbel⟩
      have HT := OAt.new v5Q (lobj jz 0 none 0 0 none 0 0)
      obtain ⟨v6Q, hrun, ho6, ha6⟩ := store_obj (P := Try.prog) (ty := 39) (n := 13) (cs := (lcells (JS.first p) 0 b1Q n d1Q b2Q n d2Q).toList) infoLS rfl rfl (lcells_one _ _ _ _ _ _ _ _) HT.at_
      have hb6 : Below v5Q.heap.size v5Q v6Q := (below_alloc v5Q (lobj jz 0 none 0 0 none 0 0)).trans (ha6.old v5Q.heap.size (by simp) (Nat.le_refl _))
      have hbw : Below v6P.heap.size v6P v6Q := hbel.trans (hb6.mono hbel.size)
      obtain ⟨gQ, hgQ⟩ : ∃ x, Hid (v5Q.heap.size = x) := ⟨_, rfl⟩
      have HOQ : Hid (OAt v6Q gQ (lobj (JS.first p) 0 b1Q n d1Q b2Q n d2Q)) := by rw [← hgQ.out]; exact OAt.of ho6
      have HK1Q := hide (r1.below hb6)
      have HK2Q := hide (r2.below hb6)
      have HM1Q : Hid (∀ b off, b1Q = some ⟨b, off, none⟩ → b < gQ) := hide fun b off e => by rw [← hgQ.out]; exact r1.far hn0.1 b off e
      have HM2Q : Hid (∀ b off, b2Q = some ⟨b, off, none⟩ → b < gQ) := hide fun b off e => by rw [← hgQ.out]; exact r2.far hn0.1 b off e
      have HLQ : Hid (v6P.heap.size ≤ gQ ∧ gQ < v6Q.heap.size) := by rw [← hgQ.out]; exact hide ⟨hbel.size, (by have h := OAt.of ho6; exact h.lt)⟩
      replace HOS := hide (HOS.out.below hbw)
      replace HK1S := hide (HK1S.out.below hbw)
      replace HK2S := hide (HK2S.out.below hbw)
      replace HOP := hide (HOP.out.below hbw)
      replace HK1P := hide (HK1P.out.below hbw)
      replace HK2P := hide (HK2P.out.below hbw)
      replace HB := hide (HB.out.trans (hbw.mono HB.out.size))
      have hrun' := hide hrun
      clear LD LV HCN r1 r2 e1 e2 hbel HT hrun ho6 ha6 hb6 hbw q0 q1 q2 hA0
      go_upto_region 10 with (refine wpList_store_at 39 (.tmp 17) (.tmp 54) rfl rfl _ _ rfl rfl v6Q hrun'.out ?_)
      rw [hgQ.out]
      clear hrun' hgQ
      have hX := HX3.out.below HB.out
      have hA0 := (HA3.out.below HB.out).cell 0
      have q0 := hX.cell 0
      have q1 := hX.cell 1
      have q2 := hX.cell 2
      simp only [List.getElem?_toArray, List.getElem?_cons_zero, List.getElem?_cons_succ] at q0 q1 q2 hA0
      have LD := hide (load_obj Try.underlying39 infoLS rfl HOS.out.at_)
      have LV := hide (load_obj Try.underlying43 infoVO rfl (HGB.out.below HB.out).at_)
      have HCN := hide (cnt_led ⟨JS.first p, 0, L0, L0⟩ wB 36 cap f ao n d S B (some ⟨g1, 0, none⟩) n (some ⟨g2, 0, none⟩) n 0 qB 0 p 0 p bb mB db v6Q HK1S.out HK2S.out (HQB.out.below HB.out) hn0 enters_law (HC3.out.below HB.out) hi0 hSi hi0 hi0)
      rw [HC3'.out.1, HC3'.out.2] at HCN
      clear hX
      go_wp2_with (first | refine wpList_load_at 39 (.tmp 11) rfl rfl _ rfl _ LD.out ?_ | refine wpList_load_at 43 (.tmp 14) rfl rfl _ rfl _ LV.out ?_)
      refine HCN.out.mono ?_
      rintro ec v5R ⟨b1R, d1R, b2R, d2R, rfl, r1, r2, e1, e2, hbel⟩
      have HT := OAt.new v5R (lobj jz 0 none 0 0 none 0 0)
      obtain ⟨v6R, hrun, ho6, ha6⟩ := store_obj (P := Try.prog) (ty := 39) (n := 13) (cs := (lcells (JS.first p) 0 b1R n d1R b2R n d2R).toList) infoLS rfl rfl (lcells_one _ _ _ _ _ _ _ _) HT.at_
      have hb6 : Below v5R.heap.size v5R v6R := (below_alloc v5R (lobj jz 0 none 0 0 none 0 0)).trans (ha6.old v5R.heap.size (by simp) (Nat.le_refl _))
      have hbw : Below v6Q.heap.size v6Q v6R := hbel.trans (hb6.mono hbel.size)
      obtain ⟨gR, hgR⟩ : ∃ x, Hid (v5R.heap.size = x) := ⟨_, rfl⟩
      have HOR : Hid (OAt v6R gR (lobj (JS.first p) 0 b1R n d1R b2R n d2R)) := by rw [← hgR.out]; exact OAt.of ho6
      have HK1R := hide (r1.below hb6)
      have HK2R := hide (r2.below hb6)
      have HM1R : Hid (∀ b off, b1R = some ⟨b, off, none⟩ → b < gR) := hide fun b off e => by rw [← hgR.out]; exact r1.far hn0.1 b off e
      have HM2R : Hid (∀ b off, b2R = some ⟨b, off, none⟩ → b < gR) := hide fun b off e => by rw [← hgR.out]; exact r2.far hn0.1 b off e
      have HLR : Hid (v6Q.heap.size ≤ gR ∧ gR < v6R.heap.size) := by rw [← hgR.out]; exact hide ⟨hbel.size, (by have h := OAt.of ho6; exact h.lt)⟩
      replace HOS := hide (HOS.out.below hbw)
      replace HK1S := hide (HK1S.out.below hbw)
      replace HK2S := hide (HK2S.out.below hbw)
      replace HOP := hide (HOP.out.below hbw)
      replace HK1P := hide (HK1P.out.below hbw)
      replace HK2P := hide (HK2P.out.below hbw)
      replace HOQ := hide (HOQ.out.below hbw)
      replace HK1Q := hide (HK1Q.out.below hbw)
      replace HK2Q := hide (HK2Q.out.below hbw)
      replace HB := hide (HB.out.trans (hbw.mono HB.out.size))
      have hrun' := hide hrun
      clear LD LV HCN r1 r2 e1 e2 hbel HT hrun ho6 ha6 hb6 hbw q0 q1 q2 hA0
      go_upto_region 11 with (refine wpList_store_at 39 (.tmp 19) (.tmp 62) rfl rfl _ _ rfl rfl v6R hrun'.out ?_)
      rw [hgR.out]
      clear hrun' hgR
      have hX := HX3.out.below HB.out
      have hA0 := (HA3.out.below HB.out).cell 0
      have q0 := hX.cell 0
      have q1 := hX.cell 1
      have q2 := hX.cell 2
      simp only [List.getElem?_toArray, List.getElem?_cons_zero, List.getElem?_cons_succ] at q0 q1 q2 hA0
      have LD := hide (load_obj Try.underlying39 infoLS rfl HOR.out.at_)
      have LV := hide (load_obj Try.underlying43 infoVO rfl (HGA.out.below HB.out).at_)
      have HCN := hide (cnt_led ⟨JS.first p, 0, L0, U3⟩ wA 36 cap f ao n d S B b1R d1R b2R d2R 0 qA 0 p 0 p ba mA da v6R HK1R.out HK2R.out (HQA.out.below HB.out) hn0 enters_law (HC3.out.below HB.out) hi0 hSi hi0 hi0)
      rw [HC4.out.1, HC4.out.2] at HCN
      clear hX
      go_wp2_with (first | refine wpList_load_at 39 (.tmp 19) rfl rfl _ rfl _ LD.out ?_ | refine wpList_load_at 43 (.tmp 13) rfl rfl _ rfl _ LV.out ?_)
      refine HCN.out.mono ?_
      rintro ec v5X ⟨b1X, d1X, b2X, d2X, rfl, r1, r2, e1, e2, hbel⟩
      obtain ⟨v6X, hrun, ho6, ha6⟩ := store_obj (P := Try.prog) (ty := 39) (n := 13) (cs := (lcells (JS.first p) 0 b1X n d1X b2X n d2X).toList) infoLS rfl rfl (lcells_one _ _ _ _ _ _ _ _) (HOR.out.below hbel).at_
      have HOX : Hid (OAt v6X gR (lobj (JS.first p) 0 b1X n d1X b2X n d2X)) := OAt.of ho6
      have hlt := HOR.out.lt
      have HK1X := hide (r1.aside ha6 (fun b off e => by have := e1 b off e; omega))
      have HK2X := hide (r2.aside ha6 (fun b off e => by have := e2 b off e; omega))
      replace HOS := hide ((HOS.out.below hbel).apart ha6 (by have := HLP.out; have := HLQ.out; have := HLR.out; have := HBS.out; omega))
      replace HK1S := hide ((HK1S.out.below hbel).aside ha6 (fun b off e => by have := HLP.out; have := HLQ.out; have := HLR.out; have := HBS.out; cases e; omega))
      replace HK2S := hide ((HK2S.out.below hbel).aside ha6 (fun b off e => by have := HLP.out; have := HLQ.out; have := HLR.out; have := HBS.out; cases e; omega))
      replace HOP := hide ((HOP.out.below hbel).apart ha6 (by have := HLP.out; have := HLQ.out; have := HLR.out; have := HBS.out; omega))
      replace HK1P := hide ((HK1P.out.below hbel).aside ha6 (fun b off e => by have := HLP.out; have := HLQ.out; have := HLR.out; have := HBS.out; have := HM1P.out b off e; omega))
      replace HK2P := hide ((HK2P.out.below hbel).aside ha6 (fun b off e => by have := HLP.out; have := HLQ.out; have := HLR.out; have := HBS.out; have := HM2P.out b off e; omega))
      replace HOQ := hide ((HOQ.out.below hbel).apart ha6 (by have := HLP.out; have := HLQ.out; have := HLR.out; have := HBS.out; omega))
      replace HK1Q := hide ((HK1Q.out.below hbel).aside ha6 (fun b off e => by have := HLP.out; have := HLQ.out; have := HLR.out; have := HBS.out; have := HM1Q.out b off e; omega))
      replace HK2Q := hide ((HK2Q.out.below hbel).aside ha6 (fun b off e => by have := HLP.out; have := HLQ.out; have := HLR.out; have := HBS.out; have := HM2Q.out b off e; omega))
      replace HB := hide ((HB.out.trans (hbel.mono HB.out.size)).trans (ha6.old _ (by have := HB.out.size; have := hbel.size; omega) (by have := HLR.out; have := HLQ.out; have := HLP.out; have := HBS.out; omega)))
      have hrun' := hide hrun
      clear LD LV HCN r1 r2 e1 e2 hbel hrun ho6 ha6 q0 q1 q2 hA0 hlt
      go_upto_region 12 with (refine wpList_store_at 39 (.tmp 19) (.tmp 70) rfl rfl _ _ rfl rfl v6X hrun'.out ?_)
      clear hrun'
      have hX := HX3.out.below HB.out
      have hA0 := (HA3.out.below HB.out).cell 0
      have q0 := hX.cell 0
      have q1 := hX.cell 1
      have q2 := hX.cell 2
      simp only [List.getElem?_toArray, List.getElem?_cons_zero, List.getElem?_cons_succ] at q0 q1 q2 hA0
      have LD := hide (load_obj Try.underlying39 infoLS rfl HOP.out.at_)
      have LV := hide (load_obj Try.underlying43 infoVO rfl (HGA.out.below HB.out).at_)
      have HCN := hide (cnt_led ⟨JS.first p, 0, L0, U1⟩ wA 36 cap f ao n d S B b1P d1P b2P d2P 0 qA 0 p 0 p ba mA da v6X HK1P.out HK2P.out (HQA.out.below HB.out) hn0 enters_law (HC3.out.below HB.out) hi0 hSi hi0 hi0)
      rw [HC5.out.1, HC5.out.2] at HCN
      clear hX
      go_wp2_with (first | refine wpList_load_at 39 (.tmp 15) rfl rfl _ rfl _ LD.out ?_ | refine wpList_load_at 43 (.tmp 13) rfl rfl _ rfl _ LV.out ?_)
      refine HCN.out.mono ?_
      rintro ec v5T ⟨b1T, d1T, b2T, d2T, rfl, r1, r2, e1, e2, hbel⟩
      have HT := OAt.new v5T (lobj jz 0 none 0 0 none 0 0)
      obtain ⟨v6T, hrun, ho6, ha6⟩ := store_obj (P := Try.prog) (ty := 39) (n := 13) (cs := (lcells (JS.first p) 0 b1T n d1T b2T n d2T).toList) infoLS rfl rfl (lcells_one _ _ _ _ _ _ _ _) HT.at_
      have hb6 : Below v5T.heap.size v5T v6T := (below_alloc v5T (lobj jz 0 none 0 0 none 0 0)).trans (ha6.old v5T.heap.size (by simp) (Nat.le_refl _))
      have hbw : Below v6X.heap.size v6X v6T := hbel.trans (hb6.mono hbel.size)
      obtain ⟨gT, hgT⟩ : ∃ x, Hid (v5T.heap.size = x) := ⟨_, rfl⟩
      have HOT : Hid (OAt v6T gT (lobj (JS.first p) 0 b1T n d1T b2T n d2T)) := by rw [← hgT.out]; exact OAt.of ho6
      have HK1T := hide (r1.below hb6)
      have HK2T := hide (r2.below hb6)
      have HM1T : Hid (∀ b off, b1T = some ⟨b, off, none⟩ → b < gT) := hide fun b off e => by rw [← hgT.out]; exact r1.far hn0.1 b off e
      have HM2T : Hid (∀ b off, b2T = some ⟨b, off, none⟩ → b < gT) := hide fun b off e => by rw [← hgT.out]; exact r2.far hn0.1 b off e
      have HLT : Hid (v6X.heap.size ≤ gT ∧ gT < v6T.heap.size) := by rw [← hgT.out]; exact hide ⟨hbel.size, (by have h := OAt.of ho6; exact h.lt)⟩
      replace HOS := hide (HOS.out.below hbw)
      replace HK1S := hide (HK1S.out.below hbw)
      replace HK2S := hide (HK2S.out.below hbw)
      replace HOP := hide (HOP.out.below hbw)
      replace HK1P := hide (HK1P.out.below hbw)
      replace HK2P := hide (HK2P.out.below hbw)
      replace HOQ := hide (HOQ.out.below hbw)
      replace HK1Q := hide (HK1Q.out.below hbw)
      replace HK2Q := hide (HK2Q.out.below hbw)
      replace HOX := hide (HOX.out.below hbw)
      replace HK1X := hide (HK1X.out.below hbw)
      replace HK2X := hide (HK2X.out.below hbw)
      replace HB := hide (HB.out.trans (hbw.mono HB.out.size))
      have hrun' := hide hrun
      clear LD LV HCN r1 r2 e1 e2 hbel HT hrun ho6 ha6 hb6 hbw q0 q1 q2 hA0
      go_upto_region 13 with (refine wpList_store_at 39 (.tmp 21) (.tmp 78) rfl rfl _ _ rfl rfl v6T hrun'.out ?_)
      rw [hgT.out]
      clear hrun' hgT
      have HB3 := hide (HN3.out.trans (HB.out.mono HN3.out.size))
      have HC13 := hide (HC3.out.below HB.out)
      have hx13 : Hid (∀ w', Below v6T.heap.size v6T w' → w'.cell? ⟨hc, 0, none⟩ = some (.slice ao n d) ∧ w'.cell? ⟨hc, 1, none⟩ = some (.int .i64 S) ∧ w'.cell? ⟨hc, 2, none⟩ = some (.int .i64 B) ∧ w'.cell? ⟨ga, 0, none⟩ = some (chv 36 cap)) := fun w' h => by
        have X := (HX3.out.below HB.out).below h
        have A := (HA3.out.below HB.out).below h
        exact ⟨X.cell 0, X.cell 1, X.cell 2, A.cell 0⟩
      have hlS : Hid (∀ w', Below v6T.heap.size v6T w' → (Instr.loadAt 39 (.pointer (some ⟨gs, 0, none⟩))).run Try.prog w' = .ok (.agg (lcells (JS.first p) 0 (some ⟨g1, 0, none⟩) n n (some ⟨g2, 0, none⟩) n n)) w') := fun w' h => load_obj Try.underlying39 infoLS rfl (HOS.out.below h).at_
      have hlP : Hid (∀ w', Below v6T.heap.size v6T w' → (Instr.loadAt 39 (.pointer (some ⟨gP, 0, none⟩))).run Try.prog w' = .ok (.agg (lcells (JS.first p) 0 b1P n d1P b2P n d2P)) w') := fun w' h => load_obj Try.underlying39 infoLS rfl (HOP.out.below h).at_
      have hlQ : Hid (∀ w', Below v6T.heap.size v6T w' → (Instr.loadAt 39 (.pointer (some ⟨gQ, 0, none⟩))).run Try.prog w' = .ok (.agg (lcells (JS.first p) 0 b1Q n d1Q b2Q n d2Q)) w') := fun w' h => load_obj Try.underlying39 infoLS rfl (HOQ.out.below h).at_
      have hlX : Hid (∀ w', Below v6T.heap.size v6T w' → (Instr.loadAt 39 (.pointer (some ⟨gR, 0, none⟩))).run Try.prog w' = .ok (.agg (lcells (JS.first p) 0 b1X n d1X b2X n d2X)) w') := fun w' h => load_obj Try.underlying39 infoLS rfl (HOX.out.below h).at_
      have hlT : Hid (∀ w', Below v6T.heap.size v6T w' → (Instr.loadAt 39 (.pointer (some ⟨gT, 0, none⟩))).run Try.prog w' = .ok (.agg (lcells (JS.first p) 0 b1T n d1T b2T n d2T)) w') := fun w' h => load_obj Try.underlying39 infoLS rfl (HOT.out.below h).at_
      clear HX3 HA3 HR3 HC3 HN3 HS3 HS31 HS32 HGA HGB HQA HQB HC1 HC2' HC3' HC4 HC5 HB HOS HOP HOQ HOX HOT HM1P HM2P HM1Q HM2Q HM1R HM2R HM1T HM2T HLP HLQ HLR HLT HBS
      have HB : Hid (Below v6T.heap.size v6T v6T.drew) := hide (Below.refl _ _).drew
      refine wp_region_noPanic ?_
      refine wp_region_held_drew (S := fun w' => Below v6T.heap.size v6T w') (by kernel_rfl) HB.out (fun hHeld => ?_)
      replace HC13 := hide (HC13.out.below HB.out)
      replace HK1S := hide (HK1S.out.below HB.out)
      replace HK2S := hide (HK2S.out.below HB.out)
      replace HK1P := hide (HK1P.out.below HB.out)
      replace HK2P := hide (HK2P.out.below HB.out)
      replace HK1Q := hide (HK1Q.out.below HB.out)
      replace HK2Q := hide (HK2Q.out.below HB.out)
      replace HK1X := hide (HK1X.out.below HB.out)
      replace HK2X := hide (HK2X.out.below HB.out)
      replace HK1T := hide (HK1T.out.below HB.out)
      replace HK2T := hide (HK2T.out.below HB.out)
      generalize v6T.drew = w0 at HB hHeld HC13 HK1S HK2S HK1P HK2P HK1Q HK2Q HK1X HK2X HK1T HK2T ⊢
      refine take_set (i := 0) (v := .bool true) rfl rfl (by kernel_rfl) (by kernel_rfl) (by kernel_rfl) (fun _ _ _ h => h) (Or.inl ⟨by kernel_rfl, fun w' hSw => ?_⟩) hHeld ?_
      · go_simp
      simp only [List.set_cons_succ, List.set_cons_zero]
      refine take_set (i := 1) (v := .bool true) rfl rfl (by kernel_rfl) (by kernel_rfl) (by kernel_rfl) (fun _ _ _ h => h) (Or.inl ⟨by kernel_rfl, fun w' hSw => ?_⟩) hHeld ?_
      · go_simp
      simp only [List.set_cons_succ, List.set_cons_zero]
      refine take_set (i := 2) (v := .bool true) rfl rfl (by kernel_rfl) (by kernel_rfl) (by kernel_rfl) (fun _ _ _ h => h) (Or.inl ⟨by kernel_rfl, fun w' hSw => ?_⟩) hHeld ?_
      · go_simp
      simp only [List.set_cons_succ, List.set_cons_zero]
      refine take_set (i := 3) (v := .bool true) rfl rfl (by kernel_rfl) (by kernel_rfl) (by kernel_rfl) (fun _ _ _ h => h) (Or.inl ⟨by kernel_rfl, fun w' hSw => ?_⟩) hHeld ?_
      · go_simp
      simp only [List.set_cons_succ, List.set_cons_zero]
      refine take_set (i := 4) (v := .bool true) rfl rfl (by kernel_rfl) (by kernel_rfl) (by kernel_rfl) (fun _ _ _ h => h) (Or.inl ⟨by kernel_rfl, fun w' hSw => ?_⟩) hHeld ?_
      · go_simp
      simp only [List.set_cons_succ, List.set_cons_zero]
      refine take_set (i := 5) (v := .agg (lcells (JS.first p) 0 b1Q n d1Q b2Q n d2Q)) rfl rfl (by kernel_rfl) (by kernel_rfl) (by kernel_rfl) (fun _ _ _ h => h) (Or.inl ⟨by kernel_rfl, fun w' hSw => ?_⟩) hHeld ?_
      · exact run_load_whole 39 (.tmp 17) rfl _ _ rfl (hlQ.out w' hSw)
      simp only [List.set_cons_succ, List.set_cons_zero]
      refine take_set (i := 6) (v := .agg (lcells (JS.first p) 0 b1X n d1X b2X n d2X)) rfl rfl (by kernel_rfl) (by kernel_rfl) (by kernel_rfl) (fun _ _ _ h => h) (Or.inl ⟨by kernel_rfl, fun w' hSw => ?_⟩) hHeld ?_
      · exact run_load_whole 39 (.tmp 19) rfl _ _ rfl (hlX.out w' hSw)
      simp only [List.set_cons_succ, List.set_cons_zero]
      refine wpAnyH_ready (rs := [7]) (by kernel_rfl) (by simp) ?_
      refine AllReadyH.cons (o := _) rfl (fun K hK => ?_) AllReadyH.nil
      go_simp
      refine (same_led ⟨JS.first p, 0, L0, U2⟩ b1Q n d1Q b2Q n d2Q b1X d1X b2X d2X w0 HK1Q.out HK2Q.out HK1X.out HK2X.out hn0.1 hn0.1).mono ?_
      rintro es wq1 ⟨rfl, hbel⟩
      replace HC13 := hide (HC13.out.below hbel)
      replace HK1S := hide (HK1S.out.below hbel)
      replace HK2S := hide (HK2S.out.below hbel)
      replace HK1P := hide (HK1P.out.below hbel)
      replace HK2P := hide (HK2P.out.below hbel)
      replace HK1Q := hide (HK1Q.out.below hbel)
      replace HK2Q := hide (HK2Q.out.below hbel)
      replace HK1X := hide (HK1X.out.below hbel)
      replace HK2X := hide (HK2X.out.below hbel)
      replace HK1T := hide (HK1T.out.below hbel)
      replace HK2T := hide (HK2T.out.below hbel)
      replace HB := hide (HB.out.trans (hbel.mono HB.out.size))
      have z1 : Hid (w0.heap.size ≤ wq1.heap.size) := hide hbel.size
      clear hbel 
      refine hK.out _ _ (HB.out) (fun hHeld => ?_)
      clear hK K
      refine take_set (i := 8) (v := .bool true) rfl rfl (by kernel_rfl) (by kernel_rfl) (by kernel_rfl) (fun _ _ _ h => h) (Or.inl ⟨by kernel_rfl, fun w' hSw => ?_⟩) hHeld ?_
      · go_simp
      simp only [List.set_cons_succ, List.set_cons_zero]
      refine take_set (i := 9) (v := .bool true) rfl rfl (by kernel_rfl) (by kernel_rfl) (by kernel_rfl) (fun _ _ _ h => h) (Or.inl ⟨by kernel_rfl, fun w' hSw => ?_⟩) hHeld ?_
      · go_simp
      simp only [List.set_cons_succ, List.set_cons_zero]
      refine take_set (i := 10) (v := .agg (lcells (JS.first p) 0 b1T n d1T b2T n d2T)) rfl rfl (by kernel_rfl) (by kernel_rfl) (by kernel_rfl) (fun _ _ _ h => h) (Or.inl ⟨by kernel_rfl, fun w' hSw => ?_⟩) hHeld ?_
      · exact run_load_whole 39 (.tmp 21) rfl _ _ rfl (hlT.out w' hSw)
      simp only [List.set_cons_succ, List.set_cons_zero]
      refine take_set (i := 11) (v := .agg (lcells (JS.first p) 0 b1P n d1P b2P n d2P)) rfl rfl (by kernel_rfl) (by kernel_rfl) (by kernel_rfl) (fun _ _ _ h => h) (Or.inl ⟨by kernel_rfl, fun w' hSw => ?_⟩) hHeld ?_
      · exact run_load_whole 39 (.tmp 15) rfl _ _ rfl (hlP.out w' hSw)
      simp only [List.set_cons_succ, List.set_cons_zero]
      refine wpAnyH_ready (rs := [12]) (by kernel_rfl) (by simp) ?_
      refine AllReadyH.cons (o := _) rfl (fun K hK => ?_) AllReadyH.nil
      go_simp
      refine (same_led ⟨JS.first p, 0, L0, U1⟩ b1T n d1T b2T n d2T b1P d1P b2P d2P wq1 HK1T.out HK2T.out HK1P.out HK2P.out hn0.1 hn0.1).mono ?_
      rintro es wq2 ⟨rfl, hbel⟩
      replace HC13 := hide (HC13.out.below hbel)
      replace HK1S := hide (HK1S.out.below hbel)
      replace HK2S := hide (HK2S.out.below hbel)
      replace HK1P := hide (HK1P.out.below hbel)
      replace HK2P := hide (HK2P.out.below hbel)
      replace HK1Q := hide (HK1Q.out.below hbel)
      replace HK2Q := hide (HK2Q.out.below hbel)
      replace HK1X := hide (HK1X.out.below hbel)
      replace HK2X := hide (HK2X.out.below hbel)
      replace HK1T := hide (HK1T.out.below hbel)
      replace HK2T := hide (HK2T.out.below hbel)
      replace HB := hide (HB.out.trans (hbel.mono HB.out.size))
      have z2 : Hid (wq1.heap.size ≤ wq2.heap.size) := hide hbel.size
      clear hbel 
      refine hK.out _ _ (HB.out) (fun hHeld => ?_)
      clear hK K
      refine take_set (i := 13) (v := .bool true) rfl rfl (by kernel_rfl) (by kernel_rfl) (by kernel_rfl) (fun _ _ _ h => h) (Or.inl ⟨by kernel_rfl, fun w' hSw => ?_⟩) hHeld ?_
      · go_simp
      simp only [List.set_cons_succ, List.set_cons_zero]
      refine take_set (i := 14) (v := .bool true) rfl rfl (by kernel_rfl) (by kernel_rfl) (by kernel_rfl) (fun _ _ _ h => h) (Or.inl ⟨by kernel_rfl, fun w' hSw => ?_⟩) hHeld ?_
      · go_simp
      simp only [List.set_cons_succ, List.set_cons_zero]
      refine take_set (i := 15) (v := .agg (lcells (JS.first p) 0 (some ⟨g1, 0, none⟩) n n (some ⟨g2, 0, none⟩) n n)) rfl rfl (by kernel_rfl) (by kernel_rfl) (by kernel_rfl) (fun _ _ _ h => h) (Or.inl ⟨by kernel_rfl, fun w' hSw => ?_⟩) hHeld ?_
      · exact run_load_whole 39 (.tmp 11) rfl _ _ rfl (hlS.out w' hSw)
      simp only [List.set_cons_succ, List.set_cons_zero]
      refine take_set (i := 16) (v := .agg #[.slice ao n d, .int .i64 S, .int .i64 B]) rfl rfl (by kernel_rfl) (by kernel_rfl) (by kernel_rfl) (fun _ _ _ h => h) (Or.inl ⟨by kernel_rfl, fun w' hSw => ?_⟩) hHeld ?_
      · have hl := hx13.out w' hSw; go_simp
      simp only [List.set_cons_succ, List.set_cons_zero]
      refine take_set (i := 17) (v := chv 36 cap) rfl rfl (by kernel_rfl) (by kernel_rfl) (by kernel_rfl) (fun _ _ _ h => h) (Or.inl ⟨by kernel_rfl, fun w' hSw => ?_⟩) hHeld ?_
      · have hl := hx13.out w' hSw; go_simp
      simp only [List.set_cons_succ, List.set_cons_zero]
      refine wpAnyH_ready (rs := [18]) (by kernel_rfl) (by simp) ?_
      refine AllReadyH.cons (o := _) rfl (fun K hK => ?_) AllReadyH.nil
      go_simp
      refine (HC13.out _ _ (Below.refl _ _) hi0).mono ?_
      rintro x wq3 ⟨hx, hw0⟩
      rw [hp.out] at hx
      subst hx
      have hbel : Below wq2.heap.size wq2 wq3 := by rw [hw0]; exact Below.refl _ _
      clear hw0
      replace HC13 := hide (HC13.out.below hbel)
      replace HK1S := hide (HK1S.out.below hbel)
      replace HK2S := hide (HK2S.out.below hbel)
      replace HK1P := hide (HK1P.out.below hbel)
      replace HK2P := hide (HK2P.out.below hbel)
      replace HK1Q := hide (HK1Q.out.below hbel)
      replace HK2Q := hide (HK2Q.out.below hbel)
      replace HK1X := hide (HK1X.out.below hbel)
      replace HK2X := hide (HK2X.out.below hbel)
      replace HK1T := hide (HK1T.out.below hbel)
      replace HK2T := hide (HK2T.out.below hbel)
      replace HB := hide (HB.out.trans (hbel.mono HB.out.size))
      have z3 : Hid (wq2.heap.size ≤ wq3.heap.size) := hide hbel.size
      clear hbel 
      refine hK.out _ _ (HB.out) (fun hHeld => ?_)
      clear hK K
      refine wpAnyH_ready (rs := [19]) (by kernel_rfl) (by simp) ?_
      refine AllReadyH.cons (o := _) rfl (fun K hK => ?_) AllReadyH.nil
      go_simp
      refine (open_led ao n d S B p wq3 hn0.2).mono ?_
      rintro eo wq4 ⟨e1, e2, rfl, o1, o2, l12, l1, hbel⟩
      rw [hL0] at o1 o2
      replace HC13 := hide (HC13.out.below hbel)
      replace HK1S := hide (HK1S.out.below hbel)
      replace HK2S := hide (HK2S.out.below hbel)
      replace HK1P := hide (HK1P.out.below hbel)
      replace HK2P := hide (HK2P.out.below hbel)
      replace HK1Q := hide (HK1Q.out.below hbel)
      replace HK2Q := hide (HK2Q.out.below hbel)
      replace HK1X := hide (HK1X.out.below hbel)
      replace HK2X := hide (HK2X.out.below hbel)
      replace HK1T := hide (HK1T.out.below hbel)
      replace HK2T := hide (HK2T.out.below hbel)
      replace HB := hide (HB.out.trans (hbel.mono HB.out.size))
      have E1 := hide (RowB.obj (n := n) o1 (by rw [← hL0]; simp) (by unfold maxLen; omega))
      have E2 := hide (RowB.obj (n := n) o2 (by rw [← hL0]; simp) (by unfold maxLen; omega))
      have z4 : Hid (wq3.heap.size ≤ wq4.heap.size) := hide hbel.size
      clear hbel o1 o2 l12 l1
      refine hK.out _ _ (HB.out) (fun hHeld => ?_)
      clear hK K
      refine wpAnyH_ready (rs := [20]) (by kernel_rfl) (by simp) ?_
      refine AllReadyH.cons (o := _) rfl (fun K hK => ?_) AllReadyH.nil
      go_simp
      refine (same_led ⟨JS.first p, 0, L0, L0⟩ (some ⟨g1, 0, none⟩) n n (some ⟨g2, 0, none⟩) n n (some ⟨e1, 0, none⟩) n (some ⟨e2, 0, none⟩) n wq4 HK1S.out HK2S.out E1.out E2.out hn0.1 hn0.1).mono ?_
      rintro es wq5 ⟨rfl, hbel⟩
      replace HC13 := hide (HC13.out.below hbel)
      replace HK1S := hide (HK1S.out.below hbel)
      replace HK2S := hide (HK2S.out.below hbel)
      replace HK1P := hide (HK1P.out.below hbel)
      replace HK2P := hide (HK2P.out.below hbel)
      replace HK1Q := hide (HK1Q.out.below hbel)
      replace HK2Q := hide (HK2Q.out.below hbel)
      replace HK1X := hide (HK1X.out.below hbel)
      replace HK2X := hide (HK2X.out.below hbel)
      replace HK1T := hide (HK1T.out.below hbel)
      replace HK2T := hide (HK2T.out.below hbel)
      replace E1 := hide (E1.out.below hbel)
      replace E2 := hide (E2.out.below hbel)
      replace HB := hide (HB.out.trans (hbel.mono HB.out.size))
      have z5 : Hid (wq4.heap.size ≤ wq5.heap.size) := hide hbel.size
      clear hbel 
      refine hK.out _ _ (HB.out) (fun hHeld => ?_)
      clear hK K
      refine take_set (i := 21) (v := .bool true) rfl rfl (by kernel_rfl) (by kernel_rfl) (by kernel_rfl) (fun _ _ _ h => h) (Or.inl ⟨by kernel_rfl, fun w' hSw => ?_⟩) hHeld ?_
      · go_simp
      simp only [List.set_cons_succ, List.set_cons_zero]
      refine take_set (i := 22) (v := .bool true) rfl rfl (by kernel_rfl) (by kernel_rfl) (by kernel_rfl) (fun _ _ _ h => h) (Or.inl ⟨by kernel_rfl, fun w' hSw => ?_⟩) hHeld ?_
      · go_simp
      simp only [List.set_cons_succ, List.set_cons_zero]
      refine wpAnyH_done (by kernel_rfl) ?_ _
      refine NoPanic.normal ?_
      have HNf := hide (HB3.out.trans (HB.out.mono HB3.out.size))
      go_wp2
      go_ret
      exact ⟨rfl, HNf.out⟩

set_option maxRecDepth 100000 in
theorem lifted (os : Os) (started : os.Started) (H : Type) (enc : TypeId × Value → H) :
    ReturnsInHanded {} Try.checked os 4 .any (Rows.ledgerKeepsSpec.pre6 enc Try.prog Try.f4 Rows.ledgerKeepsRow.domain false) (Rows.ledgerKeepsSpec.post enc Try.prog Try.f4 false true false false) := by
  refine returnsInHanded_of_change (C := Try.checked) own started (by kernel_rfl) Try.func4
    (ChangeSpec.witness6 (enc := enc) (C := Try.checked) false ⟨#[], #[.agg #[.slice none 0 0, .int .i64 0, .int .i64 0], .int .u8 0, .agg #[.int .i64 0, .int .u64 0, .int .i64 0, .int .u64 0, .int .i64 0, .int .u64 0, .slice none 0 0], .agg #[.int .i64 0, .int .u64 0, .int .i64 0, .int .u64 0, .int .i64 0, .int .u64 0, .slice none 0 0]], []⟩ 8 (by kernel_rfl) (by kernel_rfl) (by kernel_rfl) (by kernel_rfl)) ?_
  intro W base args ds gs before hval0 hW hcnd _
  have hval : ∀ (j : Nat) t v, Try.f4.params[j]? = some t → args[j]? = some v → Value.okWide Try.prog W .any base t v := hval0
  have hW' := hW
  obtain ⟨p, q, hA0, hV, rfl, hfz, hnd⟩ := hW
  have hA : DataW.TrodAll enc Try.prog W 0 (fun _ => true) true Try.f4.params.toList args.toList ds p := hA0
  rw [Try.params4] at hA hval
  obtain ⟨v0, vs0, d0, ds0, p0, q0, hargs, rfl, rfl, h0, r0⟩ := trodAll_cons hA
  obtain ⟨v1, vs1, d1, ds1, p1, q1, rfl, rfl, rfl, h1, r1⟩ := trodAll_cons r0
  obtain ⟨v2, vs2, d2, ds2, p2, q2, rfl, rfl, rfl, h2, r2⟩ := trodAll_cons r1
  obtain ⟨v3, vs3, d3, ds3, p3, q3, rfl, rfl, rfl, h3, r3⟩ := trodAll_cons r2
  obtain ⟨rfl, rfl, rfl⟩ := trodAll_nil r3
  obtain rfl : args = #[v0, v1, v2, v3] := by cases args; simp_all
  obtain ⟨rfl, rfl⟩ := trodVars_none hV
  obtain ⟨cs0, rfl, sz0⟩ := okWide_struct Try.underlying24 (hval 0 24 v0 rfl rfl)
  rw [cells24] at sz0
  obtain ⟨l0⟩ := cs0
  obtain ⟨c0_0, c0_1, c0_2, rfl⟩ := list3 (show l0.length = 3 from sz0)
  clear sz0
  have k0 := h0
  have lt0 : ∀ x ∈ p0, x.block < W.heap.size := by obtain ⟨m, hm⟩ := k0; exact DataW.trod_lt m _ _ _ hm
  obtain ⟨fuel0, hf0⟩ := h0
  simp only [Value.cells] at hf0
  obtain ⟨xs0_0t24, n0_0t24, _, hx0_0t24, _, hlen0_0t24, hf0_0t24⟩ := DataW.trod_struct Try.underlying24 hf0
  obtain ⟨y0_0t24_0, y0_0t24_1, y0_0t24_2, rfl⟩ := list3 (show xs0_0t24.length = 3 from hlen0_0t24)
  have hy0_0t24_0 : DataW.trod enc Try.prog W 0 (fun _ => true) true n0_0t24 22 [c0_0] = some y0_0t24_0 := by simpa [Value.cells, cells3, cells4, cells5, cells22, cells24, cells32, cells34, cells41, cells43] using hf0_0t24 0 _ rfl
  have hy0_0t24_1 : DataW.trod enc Try.prog W 0 (fun _ => true) true n0_0t24 3 [c0_1] = some y0_0t24_1 := by simpa [Value.cells, cells3, cells4, cells5, cells22, cells24, cells32, cells34, cells41, cells43] using hf0_0t24 1 _ rfl
  have hy0_0t24_2 : DataW.trod enc Try.prog W 0 (fun _ => true) true n0_0t24 3 [c0_2] = some y0_0t24_2 := by simpa [Value.cells, cells3, cells4, cells5, cells22, cells24, cells32, cells34, cells41, cells43] using hf0_0t24 2 _ rfl
  obtain ⟨a0_0, len0_0, cap0_0, z0_0, e0_0, w0_0⟩ : ∃ a len cap zs, c0_0 = .slice a len cap ∧ IsRow .u64 W a len cap zs := by
    rcases open_ints Try.underlying22 Try.underlying32 (by kernel_rfl) hy0_0t24_0 with ⟨hcs, _⟩ | ⟨x, l, c, zs, hcs, _, hl, hm, hz, _, hcell, hwz⟩
    · simp at hcs
      exact ⟨none, 0, 0, [], hcs, .inl ⟨rfl, rfl, rfl, rfl⟩⟩
    · simp at hcs
      exact ⟨_, _, _, zs, hcs, .inr ⟨_, rfl, hl, hm, by simpa using hz, hcell, hwz⟩⟩
  subst e0_0
  obtain ⟨a0_1, e0_1, x0_1, w0_1⟩ := DataW.trod_int Try.underlying3 hy0_0t24_1
  simp at e0_1
  subst e0_1
  obtain ⟨a0_2, e0_2, x0_2, w0_2⟩ := DataW.trod_int Try.underlying3 hy0_0t24_2
  simp at e0_2
  subst e0_2
  obtain ⟨a1, rfl, rfl, rfl, w1⟩ := open_int Try.underlying5 (hval 1 5 v1 rfl rfl) h1
  obtain ⟨cs2, rfl, sz2⟩ := okWide_struct Try.underlying43 (hval 2 43 v2 rfl rfl)
  rw [cells43] at sz2
  obtain ⟨l2⟩ := cs2
  obtain ⟨c2_0, c2_1, c2_2, c2_3, c2_4, c2_5, c2_6, rfl⟩ := list7 (show l2.length = 7 from sz2)
  clear sz2
  have k2 := h2
  have lt2 : ∀ x ∈ p2, x.block < W.heap.size := by obtain ⟨m, hm⟩ := k2; exact DataW.trod_lt m _ _ _ hm
  obtain ⟨fuel2, hf2⟩ := h2
  simp only [Value.cells] at hf2
  obtain ⟨xs2_0t43, n2_0t43, _, hx2_0t43, _, hlen2_0t43, hf2_0t43⟩ := DataW.trod_struct Try.underlying43 hf2
  obtain ⟨y2_0t43_0, y2_0t43_1, y2_0t43_2, y2_0t43_3, y2_0t43_4, rfl⟩ := list5 (show xs2_0t43.length = 5 from hlen2_0t43)
  have hy2_0t43_0 : DataW.trod enc Try.prog W 0 (fun _ => true) true n2_0t43 3 [c2_0] = some y2_0t43_0 := by simpa [Value.cells, cells3, cells4, cells5, cells22, cells24, cells32, cells34, cells41, cells43] using hf2_0t43 0 _ rfl
  have hy2_0t43_1 : DataW.trod enc Try.prog W 0 (fun _ => true) true n2_0t43 32 [c2_1] = some y2_0t43_1 := by simpa [Value.cells, cells3, cells4, cells5, cells22, cells24, cells32, cells34, cells41, cells43] using hf2_0t43 1 _ rfl
  have hy2_0t43_2 : DataW.trod enc Try.prog W 0 (fun _ => true) true n2_0t43 34 [c2_2, c2_3] = some y2_0t43_2 := by simpa [Value.cells, cells3, cells4, cells5, cells22, cells24, cells32, cells34, cells41, cells43] using hf2_0t43 2 _ rfl
  have hy2_0t43_3 : DataW.trod enc Try.prog W 0 (fun _ => true) true n2_0t43 34 [c2_4, c2_5] = some y2_0t43_3 := by simpa [Value.cells, cells3, cells4, cells5, cells22, cells24, cells32, cells34, cells41, cells43] using hf2_0t43 3 _ rfl
  have hy2_0t43_4 : DataW.trod enc Try.prog W 0 (fun _ => true) true n2_0t43 41 [c2_6] = some y2_0t43_4 := by simpa [Value.cells, cells3, cells4, cells5, cells22, cells24, cells32, cells34, cells41, cells43] using hf2_0t43 4 _ rfl
  obtain ⟨a2_0, e2_0, x2_0, w2_0⟩ := DataW.trod_int Try.underlying3 hy2_0t43_0
  simp at e2_0
  subst e2_0
  obtain ⟨a2_1, e2_1, x2_1, w2_1⟩ := DataW.trod_int Try.underlying32 hy2_0t43_1
  simp at e2_1
  subst e2_1
  obtain ⟨xs2_2t34, n2_2t34, _, hx2_2t34, _, hlen2_2t34, hf2_2t34⟩ := DataW.trod_struct Try.underlying34 hy2_0t43_2
  obtain ⟨y2_2t34_0, y2_2t34_1, rfl⟩ := list2 (show xs2_2t34.length = 2 from hlen2_2t34)
  have hy2_2t34_0 : DataW.trod enc Try.prog W 0 (fun _ => true) true n2_2t34 3 [c2_2] = some y2_2t34_0 := by simpa [Value.cells, cells3, cells4, cells5, cells22, cells24, cells32, cells34, cells41, cells43] using hf2_2t34 0 _ rfl
  have hy2_2t34_1 : DataW.trod enc Try.prog W 0 (fun _ => true) true n2_2t34 32 [c2_3] = some y2_2t34_1 := by simpa [Value.cells, cells3, cells4, cells5, cells22, cells24, cells32, cells34, cells41, cells43] using hf2_2t34 1 _ rfl
  obtain ⟨a2_2, e2_2, x2_2, w2_2⟩ := DataW.trod_int Try.underlying3 hy2_2t34_0
  simp at e2_2
  subst e2_2
  obtain ⟨a2_3, e2_3, x2_3, w2_3⟩ := DataW.trod_int Try.underlying32 hy2_2t34_1
  simp at e2_3
  subst e2_3
  obtain ⟨xs2_4t34, n2_4t34, _, hx2_4t34, _, hlen2_4t34, hf2_4t34⟩ := DataW.trod_struct Try.underlying34 hy2_0t43_3
  obtain ⟨y2_4t34_0, y2_4t34_1, rfl⟩ := list2 (show xs2_4t34.length = 2 from hlen2_4t34)
  have hy2_4t34_0 : DataW.trod enc Try.prog W 0 (fun _ => true) true n2_4t34 3 [c2_4] = some y2_4t34_0 := by simpa [Value.cells, cells3, cells4, cells5, cells22, cells24, cells32, cells34, cells41, cells43] using hf2_4t34 0 _ rfl
  have hy2_4t34_1 : DataW.trod enc Try.prog W 0 (fun _ => true) true n2_4t34 32 [c2_5] = some y2_4t34_1 := by simpa [Value.cells, cells3, cells4, cells5, cells22, cells24, cells32, cells34, cells41, cells43] using hf2_4t34 1 _ rfl
  obtain ⟨a2_4, e2_4, x2_4, w2_4⟩ := DataW.trod_int Try.underlying3 hy2_4t34_0
  simp at e2_4
  subst e2_4
  obtain ⟨a2_5, e2_5, x2_5, w2_5⟩ := DataW.trod_int Try.underlying32 hy2_4t34_1
  simp at e2_5
  subst e2_5
  obtain ⟨a2_6, len2_6, cap2_6, z2_6, e2_6, w2_6⟩ : ∃ a len cap zs, c2_6 = .slice a len cap ∧ IsRow .i64 W a len cap zs := by
    rcases open_ints Try.underlying41 Try.underlying3 (by kernel_rfl) hy2_0t43_4 with ⟨hcs, _⟩ | ⟨x, l, c, zs, hcs, _, hl, hm, hz, _, hcell, hwz⟩
    · simp at hcs
      exact ⟨none, 0, 0, [], hcs, .inl ⟨rfl, rfl, rfl, rfl⟩⟩
    · simp at hcs
      exact ⟨_, _, _, zs, hcs, .inr ⟨_, rfl, hl, hm, by simpa using hz, hcell, hwz⟩⟩
  subst e2_6
  obtain ⟨cs3, rfl, sz3⟩ := okWide_struct Try.underlying43 (hval 3 43 v3 rfl rfl)
  rw [cells43] at sz3
  obtain ⟨l3⟩ := cs3
  obtain ⟨c3_0, c3_1, c3_2, c3_3, c3_4, c3_5, c3_6, rfl⟩ := list7 (show l3.length = 7 from sz3)
  clear sz3
  have k3 := h3
  have lt3 : ∀ x ∈ p3, x.block < W.heap.size := by obtain ⟨m, hm⟩ := k3; exact DataW.trod_lt m _ _ _ hm
  obtain ⟨fuel3, hf3⟩ := h3
  simp only [Value.cells] at hf3
  obtain ⟨xs3_0t43, n3_0t43, _, hx3_0t43, _, hlen3_0t43, hf3_0t43⟩ := DataW.trod_struct Try.underlying43 hf3
  obtain ⟨y3_0t43_0, y3_0t43_1, y3_0t43_2, y3_0t43_3, y3_0t43_4, rfl⟩ := list5 (show xs3_0t43.length = 5 from hlen3_0t43)
  have hy3_0t43_0 : DataW.trod enc Try.prog W 0 (fun _ => true) true n3_0t43 3 [c3_0] = some y3_0t43_0 := by simpa [Value.cells, cells3, cells4, cells5, cells22, cells24, cells32, cells34, cells41, cells43] using hf3_0t43 0 _ rfl
  have hy3_0t43_1 : DataW.trod enc Try.prog W 0 (fun _ => true) true n3_0t43 32 [c3_1] = some y3_0t43_1 := by simpa [Value.cells, cells3, cells4, cells5, cells22, cells24, cells32, cells34, cells41, cells43] using hf3_0t43 1 _ rfl
  have hy3_0t43_2 : DataW.trod enc Try.prog W 0 (fun _ => true) true n3_0t43 34 [c3_2, c3_3] = some y3_0t43_2 := by simpa [Value.cells, cells3, cells4, cells5, cells22, cells24, cells32, cells34, cells41, cells43] using hf3_0t43 2 _ rfl
  have hy3_0t43_3 : DataW.trod enc Try.prog W 0 (fun _ => true) true n3_0t43 34 [c3_4, c3_5] = some y3_0t43_3 := by simpa [Value.cells, cells3, cells4, cells5, cells22, cells24, cells32, cells34, cells41, cells43] using hf3_0t43 3 _ rfl
  have hy3_0t43_4 : DataW.trod enc Try.prog W 0 (fun _ => true) true n3_0t43 41 [c3_6] = some y3_0t43_4 := by simpa [Value.cells, cells3, cells4, cells5, cells22, cells24, cells32, cells34, cells41, cells43] using hf3_0t43 4 _ rfl
  obtain ⟨a3_0, e3_0, x3_0, w3_0⟩ := DataW.trod_int Try.underlying3 hy3_0t43_0
  simp at e3_0
  subst e3_0
  obtain ⟨a3_1, e3_1, x3_1, w3_1⟩ := DataW.trod_int Try.underlying32 hy3_0t43_1
  simp at e3_1
  subst e3_1
  obtain ⟨xs3_2t34, n3_2t34, _, hx3_2t34, _, hlen3_2t34, hf3_2t34⟩ := DataW.trod_struct Try.underlying34 hy3_0t43_2
  obtain ⟨y3_2t34_0, y3_2t34_1, rfl⟩ := list2 (show xs3_2t34.length = 2 from hlen3_2t34)
  have hy3_2t34_0 : DataW.trod enc Try.prog W 0 (fun _ => true) true n3_2t34 3 [c3_2] = some y3_2t34_0 := by simpa [Value.cells, cells3, cells4, cells5, cells22, cells24, cells32, cells34, cells41, cells43] using hf3_2t34 0 _ rfl
  have hy3_2t34_1 : DataW.trod enc Try.prog W 0 (fun _ => true) true n3_2t34 32 [c3_3] = some y3_2t34_1 := by simpa [Value.cells, cells3, cells4, cells5, cells22, cells24, cells32, cells34, cells41, cells43] using hf3_2t34 1 _ rfl
  obtain ⟨a3_2, e3_2, x3_2, w3_2⟩ := DataW.trod_int Try.underlying3 hy3_2t34_0
  simp at e3_2
  subst e3_2
  obtain ⟨a3_3, e3_3, x3_3, w3_3⟩ := DataW.trod_int Try.underlying32 hy3_2t34_1
  simp at e3_3
  subst e3_3
  obtain ⟨xs3_4t34, n3_4t34, _, hx3_4t34, _, hlen3_4t34, hf3_4t34⟩ := DataW.trod_struct Try.underlying34 hy3_0t43_3
  obtain ⟨y3_4t34_0, y3_4t34_1, rfl⟩ := list2 (show xs3_4t34.length = 2 from hlen3_4t34)
  have hy3_4t34_0 : DataW.trod enc Try.prog W 0 (fun _ => true) true n3_4t34 3 [c3_4] = some y3_4t34_0 := by simpa [Value.cells, cells3, cells4, cells5, cells22, cells24, cells32, cells34, cells41, cells43] using hf3_4t34 0 _ rfl
  have hy3_4t34_1 : DataW.trod enc Try.prog W 0 (fun _ => true) true n3_4t34 32 [c3_5] = some y3_4t34_1 := by simpa [Value.cells, cells3, cells4, cells5, cells22, cells24, cells32, cells34, cells41, cells43] using hf3_4t34 1 _ rfl
  obtain ⟨a3_4, e3_4, x3_4, w3_4⟩ := DataW.trod_int Try.underlying3 hy3_4t34_0
  simp at e3_4
  subst e3_4
  obtain ⟨a3_5, e3_5, x3_5, w3_5⟩ := DataW.trod_int Try.underlying32 hy3_4t34_1
  simp at e3_5
  subst e3_5
  obtain ⟨a3_6, len3_6, cap3_6, z3_6, e3_6, w3_6⟩ : ∃ a len cap zs, c3_6 = .slice a len cap ∧ IsRow .i64 W a len cap zs := by
    rcases open_ints Try.underlying41 Try.underlying3 (by kernel_rfl) hy3_0t43_4 with ⟨hcs, _⟩ | ⟨x, l, c, zs, hcs, _, hl, hm, hz, _, hcell, hwz⟩
    · simp at hcs
      exact ⟨none, 0, 0, [], hcs, .inl ⟨rfl, rfl, rfl, rfl⟩⟩
    · simp at hcs
      exact ⟨_, _, _, zs, hcs, .inr ⟨_, rfl, hl, hm, by simpa using hz, hcell, hwz⟩⟩
  subst e3_6
  clear hA0 hval0
  refine (walk a0_0 len0_0 cap0_0 z0_0 a0_1 a0_2 a1 a2_0 a2_1 a2_2 a2_3 a2_4 a2_5 a2_6 len2_6 cap2_6 z2_6 a3_0 a3_1 a3_2 a3_3 a3_4 a3_5 a3_6 len3_6 cap3_6 z3_6 W w0_0 w0_1 w0_2 w1 w2_0 w2_1 w2_2 w2_3 w2_4 w2_5 w2_6 w3_0 w3_1 w3_2 w3_3 w3_4 w3_5 w3_6).mono fun e W' ⟨he, bel⟩ => ?_
  subst he
  exact ⟨_, rfl, _, _, _, [], _, [], hW', trodAll_mk1 (shut_bool Try.underlying4 _), (trodAll_cons_mk (Below.trod laidOut (by kernel_rfl) (of_decide_eq_true (by kernel_rfl)) k0 bel lt0) (trodAll_cons_mk (shut_int Try.underlying5 w1) (trodAll_cons_mk (Below.trod laidOut (by kernel_rfl) (of_decide_eq_true (by kernel_rfl)) k2 bel lt2) (trodAll_cons_mk (Below.trod laidOut (by kernel_rfl) (of_decide_eq_true (by kernel_rfl)) k3 bel lt3) trodAll_mk0)))), rfl, bel.frame _, fun h => by cases h⟩

theorem over : Rows.ledgerKeepsRow.holds Try.pinned (OpenSpec.ofChange Rows.ledgerKeepsSpec) :=
  OpenClaim.holds_of_wide 4 Try.f4 rfl rfl rfl rfl rfl rfl rfl ⟨rfl, rfl, rfl, rfl, rfl⟩ rfl rfl rfl rfl rfl (by kernel_rfl) Try.func4 (by kernel_rfl)
    (of_decide_eq_true (by kernel_rfl)) (by unfold Func.isWrapper; first | (rw [if_pos (by decide +kernel)]; kernel_rfl) | (rw [if_neg (by decide +kernel)]; exact ⟨rfl, rfl⟩))
    (fun os started H enc _ => lifted os started H enc)

theorem proved : Rows.LedgerKeepsSaid := over
end Go.Proofs.Ytedpieepfbcboaa.ledgerKeeps

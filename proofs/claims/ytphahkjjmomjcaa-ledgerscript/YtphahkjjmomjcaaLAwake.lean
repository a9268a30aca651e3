/- Layer 10's examples ('awake'). -/
import Derived.Test.YtphahkjjmomjcaaLAdv

import Derived.Test.YtphahkjjmomjcaaLCnt

import Derived.Test.YtphahkjjmomjcaaLOpen

import Derived.Test.YtphahkjjmomjcaaLHelp

namespace Go.Proofs.Ytphahkjjmomjcaa

open Go.ChangeShapes Go.WideShapes Go.ChangeAt Go.RowKit

set_option linter.unusedVariables false

def fA (s : Int) : Int := (s + 100) % 18446744073709551616
def sA : LS := advS [1, 1, 1] 4 fA ⟨JS.first 100, 0, [false, false, false], [false, false, false]⟩ 9
abbrev vA : VV := ⟨9, 0, 0, 100, 2, 108, [0, 2]⟩
theorem sA_e : sA.e = 2 := by decide +kernel
theorem cA_b : cntB 3 4 fA sA vA = true := by decide +kernel
theorem cA_e : (cntS 3 4 fA sA vA).e = 2 := by decide +kernel
theorem pA_c : (pullJ [1, 1, 1] 4 fA (cntS 3 4 fA sA vA)).ce = 2 ∧ (pullJ [1, 1, 1] 4 fA (cntS 3 4 fA sA vA)).cr = 108 := by decide +kernel

set_option maxRecDepth 100000 in
set_option maxHeartbeats 8000000 in
theorem awake_any (w : World) : Calls Try.prog 24 #[] w fun e w' => e = .returned (.bool true) ∧ Below w.heap.size w w' := by
  have HR := hide ((RowIn.lit .u64 w w.heap.size #[.int .u64 1, .int .u64 1, .int .u64 1] 37 (0, 0) 3 3 [1, 1, 1] rfl rfl rfl (by simp [maxLen])).alloc (cfg (some ⟨w.heap.size, 0, none⟩) 3 3 4 0))
  have HX := hide (OAt.new (w.alloc (.cells #[.int .u64 1, .int .u64 1, .int .u64 1] 37)) (cfg (some ⟨w.heap.size, 0, none⟩) 3 3 4 0))
  have HN := hide (((Below.refl _ w).alloc (Nat.le_refl _) (.cells #[.int .u64 1, .int .u64 1, .int .u64 1] 37)).alloc (by simp) (cfg (some ⟨w.heap.size, 0, none⟩) 3 3 4 0))
  have hu : Hid (∀ z ∈ [1, 1, 1], (0 : Int) ≤ z ∧ z ≤ 18446744073709551615) := hide (by decide)
  simp only [World.size_alloc] at HX
  go_enter Try.func24, Try.ntmps24
  go_upto_region 3 with fail
  generalize hW : (w.alloc (.cells #[.int .u64 1, .int .u64 1, .int .u64 1] 37)).alloc (cfg (some ⟨w.heap.size, 0, none⟩) 3 3 4 0) = W at HR HX HN
  have hWs : W.heap.size = w.heap.size + 1 + 1 := by rw [← hW]; simp
  clear hW
  have hxs : Hid (∀ w', Below W.heap.size W w' → w'.cell? ⟨w.heap.size + 1, 0, none⟩ = some (.slice (some ⟨w.heap.size, 0, none⟩) 3 3) ∧ w'.cell? ⟨w.heap.size + 1, 1, none⟩ = some (.int .i64 4) ∧ w'.cell? ⟨w.heap.size + 1, 2, none⟩ = some (.int .i64 0)) := fun w' h => by
    have V := HX.out.below h
    exact ⟨V.cell 0, V.cell 1, V.cell 2⟩
  obtain ⟨sa, hsa⟩ : ∃ x, Hid (sA = x) := ⟨_, rfl⟩
  have hsaE : Hid (advS [1, 1, 1] 4 fA ⟨JS.first 100, 0, [false, false, false], [false, false, false]⟩ 9 = sa) := hsa
  have hse : Hid (sa.e = 2) := by rw [← hsa.out]; exact hide sA_e
  go_cut [3] from 7 to 11 (fun x wx => ∃ g b1 d1 b2 d2, x = Value.pointer (some ⟨g, 0, none⟩) ∧ Hid (OAt wx g (lobj sa.j sa.e b1 3 d1 b2 3 d2) ∧ RowB wx b1 3 d1 sa.bf ∧ RowB wx b2 3 d2 sa.nw ∧ (∀ b off, b1 = some ⟨b, off, none⟩ → b ≠ g) ∧ (∀ b off, b2 = some ⟨b, off, none⟩ → b ≠ g) ∧ W.heap.size ≤ g ∧ Below W.heap.size W wx))
  case first =>
    have HB : Hid (Below W.heap.size W W.drew) := hide (Below.refl _ _).drew
    refine wp_region_noPanic ?_
    refine wp_region_held_drew (S := fun w' => Below W.heap.size W w') (by kernel_rfl) HB.out (fun hHeld => ?_)
    replace HR := hide (HR.out.below HB.out)
    generalize W.drew = w0 at HB hHeld HR ⊢
    refine take_set (i := 0) (v := .agg #[.slice (some ⟨w.heap.size, 0, none⟩) 3 3, .int .i64 4, .int .i64 0]) rfl rfl (by kernel_rfl) (by kernel_rfl) (by kernel_rfl) (fun _ _ _ h => h) (Or.inl ⟨by kernel_rfl, fun w' hSw => ?_⟩) hHeld ?_
    · have hl := hxs.out w' hSw; go_simp
    simp only [List.set_cons_succ, List.set_cons_zero]
    refine take_set (i := 1) (v := .agg #[.slice (some ⟨w.heap.size, 0, none⟩) 3 3, .int .i64 4, .int .i64 0]) rfl rfl (by kernel_rfl) (by kernel_rfl) (by kernel_rfl) (fun _ _ _ h => h) (Or.inl ⟨by kernel_rfl, fun w' hSw => ?_⟩) hHeld ?_
    · have hl := hxs.out w' hSw; go_simp
    simp only [List.set_cons_succ, List.set_cons_zero]
    refine take_set (i := 3) (v := chv 46 #[]) rfl rfl (by kernel_rfl) (by kernel_rfl) (by kernel_rfl) (fun _ _ _ h => h) (Or.inl ⟨by kernel_rfl, fun w' hSw => ?_⟩) hHeld ?_
    · go_simp
    simp only [List.set_cons_succ, List.set_cons_zero]
    refine wpAnyH_ready (rs := [2, 5]) (by kernel_rfl) (by simp) ?_
    refine AllReadyH.cons (o := _) rfl (fun K hK => ?_) (AllReadyH.cons (o := _) rfl (fun K hK => ?_) (AllReadyH.nil))
    · go_simp
      refine (open_led (some ⟨w.heap.size, 0, none⟩) 3 3 4 0 100 w0 (by omega)).mono ?_
      rintro eo wq1 ⟨g1, g2, rfl, o1, o2, l12, _, hbel⟩
      replace HR := hide (HR.out.below hbel)
      replace HB := hide (HB.out.trans (hbel.mono HB.out.size))
      have R1 := hide (RowB.obj (n := 3) o1 rfl (by simp [maxLen]))
      have R2 := hide (RowB.obj (n := 3) o2 rfl (by simp [maxLen]))
      have z1 : Hid (w0.heap.size ≤ wq1.heap.size) := hide hbel.size
      clear hbel o1 o2 l12
      refine hK.out _ _ (HB.out) (fun hHeld => ?_)
      clear hK K
      refine wpAnyH_ready (rs := [4, 5]) (by kernel_rfl) (by simp) ?_
      refine AllReadyH.cons (o := _) rfl (fun K hK => ?_) (AllReadyH.cons (o := _) rfl (fun K hK => ?_) (AllReadyH.nil))
      · go_simp
        refine (adv_led [1, 1, 1] ⟨JS.first 100, 0, [false, false, false], [false, false, false]⟩ 46 #[] fA (some ⟨w.heap.size, 0, none⟩) 3 3 4 0 (some ⟨g1, 0, none⟩) 3 (some ⟨g2, 0, none⟩) 3 9 wq1 HR.out hu.out R1.out R2.out (by omega) enters_awake (awake_chain _) (show I64s 0 from by unfold I64s; omega) (by unfold I64s; omega) (by unfold I64s; omega)).mono ?_
        rintro ea wq2 ⟨b1, d1, b2, d2, rfl, r1, r2, e1, e2, hbel⟩
        rw [hsaE.out] at r1 r2 ⊢
        replace HR := hide (HR.out.below hbel)
        replace R1 := hide (R1.out.below hbel)
        replace R2 := hide (R2.out.below hbel)
        replace HB := hide (HB.out.trans (hbel.mono HB.out.size))
        have Q1 := hide (r1)
        have Q2 := hide (r2)
        have z2 : Hid (wq1.heap.size ≤ wq2.heap.size) := hide hbel.size
        have N1 : Hid (∀ b off, b1 = some ⟨b, off, none⟩ → wq1.heap.size ≤ b ∧ b < wq2.heap.size) := hide (fun b off e => ⟨e1 b off e, r1.far (by omega) b off e⟩)
        have N2 : Hid (∀ b off, b2 = some ⟨b, off, none⟩ → wq1.heap.size ≤ b ∧ b < wq2.heap.size) := hide (fun b off e => ⟨e2 b off e, r2.far (by omega) b off e⟩)
        clear hbel r1 r2 e1 e2
        refine hK.out _ _ (HB.out) (fun hHeld => ?_)
        clear hK K
        have hbel := below_alloc wq2 (lobj jz 0 none 0 0 none 0 0)
        have HT := hide (OAt.new wq2 (lobj jz 0 none 0 0 none 0 0))
        refine wpAnyH_ready (rs := [5]) (by kernel_rfl) (by simp) ?_
        refine AllReadyH.cons (o := _) rfl (fun K hK => ?_) AllReadyH.nil
        go_simp
        refine hK.out _ _ (HB.out.trans (hbel.mono HB.out.size)) (fun hHeld => ?_)
        clear hK K
        have z3 : Hid ((wq2.alloc (lobj jz 0 none 0 0 none 0 0)).heap.size = wq2.heap.size + 1) := hide (by simp)
        generalize wq2.alloc (lobj jz 0 none 0 0 none 0 0) = wq3 at hbel HT hHeld z3 ⊢
        replace HR := hide (HR.out.below hbel)
        replace R1 := hide (R1.out.below hbel)
        replace R2 := hide (R2.out.below hbel)
        replace Q1 := hide (Q1.out.below hbel)
        replace Q2 := hide (Q2.out.below hbel)
        have HTs : Hid (W.heap.size ≤ wq2.heap.size) := hide HB.out.size
        replace HB := hide (HB.out.trans (hbel.mono HB.out.size))
        clear hbel
        obtain ⟨gT, gTe⟩ : ∃ x, Hid (wq2.heap.size = x) := ⟨_, rfl⟩
        rw [gTe.out] at HT HTs ⊢
        refine wpAnyH_ready (rs := [6]) (by kernel_rfl) (by simp) ?_
        refine AllReadyH.cons (o := _) rfl (fun K hK => ?_) AllReadyH.nil
        obtain ⟨wq4, hrun, hoS, haS⟩ := store_obj (P := Try.prog) (ty := 66) (n := 13) (cs := (lcells sa.j sa.e b1 3 d1 b2 3 d2).toList) infoLS rfl rfl (lcells_one _ _ _ _ _ _ _ _) HT.out.at_
        have y1 := z1.out
        have y2 := z2.out
        have y3 := z3.out
        have yT := HTs.out
        have yg := gTe.out
        refine step_store_at 66 (.tmp 3) (.tmp 11) rfl rfl _ _ rfl rfl wq4 hrun ?_
        have HG := hide ((show OAt wq4 gT (.cells (lcells sa.j sa.e b1 3 d1 b2 3 d2) 66) from OAt.of hoS))
        have K1 := hide (Q1.out.aside haS (fun b off e => by have := N1.out b off e; omega))
        have K2 := hide (Q2.out.aside haS (fun b off e => by have := N2.out b off e; omega))
        have HBB := hide (HB.out.trans (haS.old _ HB.out.size (by omega)))
        have M1 := hide ((fun b off e => by have := N1.out b off e; omega : ∀ b off, b1 = some ⟨b, off, none⟩ → b ≠ gT))
        have M2 := hide ((fun b off e => by have := N2.out b off e; omega : ∀ b off, b2 = some ⟨b, off, none⟩ → b ≠ gT))
        refine hK.out _ _ ((HB.out.trans (haS.old _ HB.out.size (by omega)))) (fun hHeld => ?_)
        clear hK K
        refine wpAnyH_done (by kernel_rfl) ?_ _
        refine NoPanic.normal ?_
        go_wp2
        go_meet
        exact ⟨gT, b1, d1, b2, d2, rfl, hide ⟨HG.out, K1.out, K2.out, M1.out, M2.out, HTs.out, HBB.out⟩⟩
      · have hbel := below_alloc wq1 (lobj jz 0 none 0 0 none 0 0)
        have HT := hide (OAt.new wq1 (lobj jz 0 none 0 0 none 0 0))
        go_simp
        refine hK.out _ _ (HB.out.trans (hbel.mono HB.out.size)) (fun hHeld => ?_)
        clear hK K
        have z2 : Hid ((wq1.alloc (lobj jz 0 none 0 0 none 0 0)).heap.size = wq1.heap.size + 1) := hide (by simp)
        generalize wq1.alloc (lobj jz 0 none 0 0 none 0 0) = wq2 at hbel HT hHeld z2 ⊢
        replace HR := hide (HR.out.below hbel)
        replace R1 := hide (R1.out.below hbel)
        replace R2 := hide (R2.out.below hbel)
        have HTs : Hid (W.heap.size ≤ wq1.heap.size) := hide HB.out.size
        replace HB := hide (HB.out.trans (hbel.mono HB.out.size))
        clear hbel
        obtain ⟨gT, gTe⟩ : ∃ x, Hid (wq1.heap.size = x) := ⟨_, rfl⟩
        rw [gTe.out] at HT HTs ⊢
        refine wpAnyH_ready (rs := [4]) (by kernel_rfl) (by simp) ?_
        refine AllReadyH.cons (o := _) rfl (fun K hK => ?_) AllReadyH.nil
        go_simp
        refine (adv_led [1, 1, 1] ⟨JS.first 100, 0, [false, false, false], [false, false, false]⟩ 46 #[] fA (some ⟨w.heap.size, 0, none⟩) 3 3 4 0 (some ⟨g1, 0, none⟩) 3 (some ⟨g2, 0, none⟩) 3 9 wq2 HR.out hu.out R1.out R2.out (by omega) enters_awake (awake_chain _) (show I64s 0 from by unfold I64s; omega) (by unfold I64s; omega) (by unfold I64s; omega)).mono ?_
        rintro ea wq3 ⟨b1, d1, b2, d2, rfl, r1, r2, e1, e2, hbel⟩
        rw [hsaE.out] at r1 r2 ⊢
        replace HR := hide (HR.out.below hbel)
        replace R1 := hide (R1.out.below hbel)
        replace R2 := hide (R2.out.below hbel)
        replace HT := hide (HT.out.below hbel)
        replace HB := hide (HB.out.trans (hbel.mono HB.out.size))
        have Q1 := hide (r1)
        have Q2 := hide (r2)
        have z3 : Hid (wq2.heap.size ≤ wq3.heap.size) := hide hbel.size
        have N1 : Hid (∀ b off, b1 = some ⟨b, off, none⟩ → wq2.heap.size ≤ b ∧ b < wq3.heap.size) := hide (fun b off e => ⟨e1 b off e, r1.far (by omega) b off e⟩)
        have N2 : Hid (∀ b off, b2 = some ⟨b, off, none⟩ → wq2.heap.size ≤ b ∧ b < wq3.heap.size) := hide (fun b off e => ⟨e2 b off e, r2.far (by omega) b off e⟩)
        clear hbel r1 r2 e1 e2
        refine hK.out _ _ (HB.out) (fun hHeld => ?_)
        clear hK K
        refine wpAnyH_ready (rs := [6]) (by kernel_rfl) (by simp) ?_
        refine AllReadyH.cons (o := _) rfl (fun K hK => ?_) AllReadyH.nil
        obtain ⟨wq4, hrun, hoS, haS⟩ := store_obj (P := Try.prog) (ty := 66) (n := 13) (cs := (lcells sa.j sa.e b1 3 d1 b2 3 d2).toList) infoLS rfl rfl (lcells_one _ _ _ _ _ _ _ _) HT.out.at_
        have y1 := z1.out
        have y2 := z2.out
        have y3 := z3.out
        have yT := HTs.out
        have yg := gTe.out
        refine step_store_at 66 (.tmp 3) (.tmp 11) rfl rfl _ _ rfl rfl wq4 hrun ?_
        have HG := hide ((show OAt wq4 gT (.cells (lcells sa.j sa.e b1 3 d1 b2 3 d2) 66) from OAt.of hoS))
        have K1 := hide (Q1.out.aside haS (fun b off e => by have := N1.out b off e; omega))
        have K2 := hide (Q2.out.aside haS (fun b off e => by have := N2.out b off e; omega))
        have HBB := hide (HB.out.trans (haS.old _ HB.out.size (by omega)))
        have M1 := hide ((fun b off e => by have := N1.out b off e; omega : ∀ b off, b1 = some ⟨b, off, none⟩ → b ≠ gT))
        have M2 := hide ((fun b off e => by have := N2.out b off e; omega : ∀ b off, b2 = some ⟨b, off, none⟩ → b ≠ gT))
        refine hK.out _ _ ((HB.out.trans (haS.old _ HB.out.size (by omega)))) (fun hHeld => ?_)
        clear hK K
        refine wpAnyH_done (by kernel_rfl) ?_ _
        refine NoPanic.normal ?_
        go_wp2
        go_meet
        exact ⟨gT, b1, d1, b2, d2, rfl, hide ⟨HG.out, K1.out, K2.out, M1.out, M2.out, HTs.out, HBB.out⟩⟩
    · have hbel := below_alloc w0 (lobj jz 0 none 0 0 none 0 0)
      have HT := hide (OAt.new w0 (lobj jz 0 none 0 0 none 0 0))
      go_simp
      refine hK.out _ _ (HB.out.trans (hbel.mono HB.out.size)) (fun hHeld => ?_)
      clear hK K
      have z1 : Hid ((w0.alloc (lobj jz 0 none 0 0 none 0 0)).heap.size = w0.heap.size + 1) := hide (by simp)
      generalize w0.alloc (lobj jz 0 none 0 0 none 0 0) = wq1 at hbel HT hHeld z1 ⊢
      replace HR := hide (HR.out.below hbel)
      have HTs : Hid (W.heap.size ≤ w0.heap.size) := hide HB.out.size
      replace HB := hide (HB.out.trans (hbel.mono HB.out.size))
      clear hbel
      obtain ⟨gT, gTe⟩ : ∃ x, Hid (w0.heap.size = x) := ⟨_, rfl⟩
      rw [gTe.out] at HT HTs ⊢
      refine wpAnyH_ready (rs := [2]) (by kernel_rfl) (by simp) ?_
      refine AllReadyH.cons (o := _) rfl (fun K hK => ?_) AllReadyH.nil
      go_simp
      refine (open_led (some ⟨w.heap.size, 0, none⟩) 3 3 4 0 100 wq1 (by omega)).mono ?_
      rintro eo wq2 ⟨g1, g2, rfl, o1, o2, l12, _, hbel⟩
      replace HR := hide (HR.out.below hbel)
      replace HT := hide (HT.out.below hbel)
      replace HB := hide (HB.out.trans (hbel.mono HB.out.size))
      have R1 := hide (RowB.obj (n := 3) o1 rfl (by simp [maxLen]))
      have R2 := hide (RowB.obj (n := 3) o2 rfl (by simp [maxLen]))
      have z2 : Hid (wq1.heap.size ≤ wq2.heap.size) := hide hbel.size
      clear hbel o1 o2 l12
      refine hK.out _ _ (HB.out) (fun hHeld => ?_)
      clear hK K
      refine wpAnyH_ready (rs := [4]) (by kernel_rfl) (by simp) ?_
      refine AllReadyH.cons (o := _) rfl (fun K hK => ?_) AllReadyH.nil
      go_simp
      refine (adv_led [1, 1, 1] ⟨JS.first 100, 0, [false, false, false], [false, false, false]⟩ 46 #[] fA (some ⟨w.heap.size, 0, none⟩) 3 3 4 0 (some ⟨g1, 0, none⟩) 3 (some ⟨g2, 0, none⟩) 3 9 wq2 HR.out hu.out R1.out R2.out (by omega) enters_awake (awake_chain _) (show I64s 0 from by unfold I64s; omega) (by unfold I64s; omega) (by unfold I64s; omega)).mono ?_
      rintro ea wq3 ⟨b1, d1, b2, d2, rfl, r1, r2, e1, e2, hbel⟩
      rw [hsaE.out] at r1 r2 ⊢
      replace HR := hide (HR.out.below hbel)
      replace HT := hide (HT.out.below hbel)
      replace R1 := hide (R1.out.below hbel)
      replace R2 := hide (R2.out.below hbel)
      replace HB := hide (HB.out.trans (hbel.mono HB.out.size))
      have Q1 := hide (r1)
      have Q2 := hide (r2)
      have z3 : Hid (wq2.heap.size ≤ wq3.heap.size) := hide hbel.size
      have N1 : Hid (∀ b off, b1 = some ⟨b, off, none⟩ → wq2.heap.size ≤ b ∧ b < wq3.heap.size) := hide (fun b off e => ⟨e1 b off e, r1.far (by omega) b off e⟩)
      have N2 : Hid (∀ b off, b2 = some ⟨b, off, none⟩ → wq2.heap.size ≤ b ∧ b < wq3.heap.size) := hide (fun b off e => ⟨e2 b off e, r2.far (by omega) b off e⟩)
      clear hbel r1 r2 e1 e2
      refine hK.out _ _ (HB.out) (fun hHeld => ?_)
      clear hK K
      refine wpAnyH_ready (rs := [6]) (by kernel_rfl) (by simp) ?_
      refine AllReadyH.cons (o := _) rfl (fun K hK => ?_) AllReadyH.nil
      obtain ⟨wq4, hrun, hoS, haS⟩ := store_obj (P := Try.prog) (ty := 66) (n := 13) (cs := (lcells sa.j sa.e b1 3 d1 b2 3 d2).toList) infoLS rfl rfl (lcells_one _ _ _ _ _ _ _ _) HT.out.at_
      have y1 := z1.out
      have y2 := z2.out
      have y3 := z3.out
      have yT := HTs.out
      have yg := gTe.out
      refine step_store_at 66 (.tmp 3) (.tmp 11) rfl rfl _ _ rfl rfl wq4 hrun ?_
      have HG := hide ((show OAt wq4 gT (.cells (lcells sa.j sa.e b1 3 d1 b2 3 d2) 66) from OAt.of hoS))
      have K1 := hide (Q1.out.aside haS (fun b off e => by have := N1.out b off e; omega))
      have K2 := hide (Q2.out.aside haS (fun b off e => by have := N2.out b off e; omega))
      have HBB := hide (HB.out.trans (haS.old _ HB.out.size (by omega)))
      have M1 := hide ((fun b off e => by have := N1.out b off e; omega : ∀ b off, b1 = some ⟨b, off, none⟩ → b ≠ gT))
      have M2 := hide ((fun b off e => by have := N2.out b off e; omega : ∀ b off, b2 = some ⟨b, off, none⟩ → b ≠ gT))
      refine hK.out _ _ ((HB.out.trans (haS.old _ HB.out.size (by omega)))) (fun hHeld => ?_)
      clear hK K
      refine wpAnyH_done (by kernel_rfl) ?_ _
      refine NoPanic.normal ?_
      go_wp2
      go_meet
      exact ⟨gT, b1, d1, b2, d2, rfl, hide ⟨HG.out, K1.out, K2.out, M1.out, M2.out, HTs.out, HBB.out⟩⟩
  case rest =>
    obtain ⟨g, b1, d1, b2, d2, rfl, hc⟩ := hcut
    obtain ⟨hG, hR1, hR2, hM1, hM2, hsc, hB⟩ := hc.out
    have hgl := hG.lt
    have HN1 := hide (HN.out.trans (hB.mono (by omega)))
    have hx := hxs.out _ hB
    have LD := hide (load_obj Try.underlying66 infoLS rfl hG.at_)
    have HRw := hide ((HR.out.below hB).alloc (.cells #[.int .i64 0, .int .i64 2] 3))
    have HXw := hide ((HX.out.below hB).alloc (.cells #[.int .i64 0, .int .i64 2] 3))
    have HGw := hide (hG.alloc (.cells #[.int .i64 0, .int .i64 2] 3))
    have HR1 := hide (hR1.alloc (.cells #[.int .i64 0, .int .i64 2] 3))
    have HR2 := hide (hR2.alloc (.cells #[.int .i64 0, .int .i64 2] 3))
    have HNw := hide (HN1.out.alloc HN1.out.size (.cells #[.int .i64 0, .int .i64 2] 3))
    have HWw := hide (RowIn.lit .i64 wc wc.heap.size #[.int .i64 0, .int .i64 2] 3 (0, 0) 2 2 [0, 2] rfl rfl rfl (by simp [maxLen]))
    have hsw : wc.heap.size < (wc.alloc (.cells #[.int .i64 0, .int .i64 2] 3)).heap.size := by simp
    have HCN := hide (cnt_led sa [0, 2] 46 #[] fA (some ⟨w.heap.size, 0, none⟩) 3 3 4 0 b1 d1 b2 d2 9 0 0 100 2 108 (some ⟨wc.heap.size, 0, none⟩) 2 2 (wc.alloc (.cells #[.int .i64 0, .int .i64 2] 3)) HR1.out HR2.out HWw.out (by omega) enters_awake (awake_chain _) (by rw [hse.out]; unfold I64s; omega) (by unfold I64s; omega) (by unfold I64s; omega) (by unfold I64s; omega))
    clear hc hG hR1 hR2 hM1 hM2 hB
    go_wp2_with (refine wpList_load_at 66 (.tmp 3) rfl rfl _ rfl _ LD.out ?_)
    refine HCN.out.mono ?_
    rintro ec w1 ⟨b3, d3, b4, d4, rfl, r1, r2, e1, e2, hbel⟩
    clear LD HCN HR1 HR2 hx
    obtain ⟨sB, hsB⟩ : ∃ x, Hid (cntS 3 4 fA sa ⟨9, 0, 0, 100, 2, 108, [0, 2]⟩ = x) := ⟨_, rfl⟩
    have hBe : Hid (sB.e = 2) := by rw [← hsB.out, ← hsa.out]; exact hide cA_e
    have hBp : Hid ((pullJ [1, 1, 1] 4 fA sB).ce = 2 ∧ (pullJ [1, 1, 1] 4 fA sB).cr = 108) := by rw [← hsB.out, ← hsa.out]; exact hide pA_c
    rw [hsB.out] at r1 r2 ⊢
    rw [show cntB 3 4 fA sa ⟨9, 0, 0, 100, 2, 108, [0, 2]⟩ = true from by rw [← hsa.out]; exact cA_b]
    obtain ⟨w2, hrun, ho2, ha2⟩ := store_obj (P := Try.prog) (ty := 66) (n := 13) (cs := (lcells sB.j sB.e b3 3 d3 b4 3 d4).toList) infoLS rfl rfl (lcells_one _ _ _ _ _ _ _ _) (HGw.out.below hbel).at_
    have hs1 := hbel.size
    have K1 := hide (r1.aside ha2 (fun b off e => by have := e1 b off e; omega))
    have K2 := hide (r2.aside ha2 (fun b off e => by have := e2 b off e; omega))
    have HG2 : Hid (OAt w2 g (lobj sB.j sB.e b3 3 d3 b4 3 d4)) := OAt.of ho2
    have HX2 := hide ((HXw.out.below hbel).apart ha2 (by omega))
    have HR2 := hide ((HRw.out.below hbel).aside ha2 (fun b off e => by cases e; omega))
    have HN2 := hide ((HNw.out.trans (hbel.mono HNw.out.size)).trans (ha2.old _ (by have := HNw.out.size; omega) (by omega)))
    have hrun' := hide hrun
    clear hrun ho2 ha2 hbel r1 r2 e1 e2 HXw HRw HGw HNw HN1
    have hx : w2.cell? ⟨w.heap.size + 1, 0, none⟩ = some (.slice (some ⟨w.heap.size, 0, none⟩) 3 3) ∧ w2.cell? ⟨w.heap.size + 1, 1, none⟩ = some (.int .i64 4) ∧ w2.cell? ⟨w.heap.size + 1, 2, none⟩ = some (.int .i64 0) := ⟨HX2.out.cell 0, HX2.out.cell 1, HX2.out.cell 2⟩
    have LD := hide (load_obj Try.underlying66 infoLS rfl HG2.out.at_)
    have hl := HG2.out.lc.1
    have HPL := hide (pull_led [1, 1, 1] sB.bf sB.nw 46 #[] fA (some ⟨w.heap.size, 0, none⟩) 3 3 4 0 sB.j sB.e b3 3 d3 b4 3 d4 w2 HR2.out hu.out K1.out K2.out (by omega) (by omega) enters_awake (awake_chain _) (by rw [hBe.out]; unfold I64s; omega) (by unfold I64s; omega))
    obtain ⟨J, hJ⟩ : ∃ x, Hid (pullJ [1, 1, 1] 4 fA ⟨sB.j, sB.e, sB.bf, sB.nw⟩ = x) := ⟨_, rfl⟩
    have hJc : Hid (J.ce = 2 ∧ J.cr = 108) := by rw [← hJ.out]; exact hBp
    have hl2 : w2.cell? ⟨g, 10, none⟩ = some (.int .i64 2) := by rw [hl, hBe.out]
    clear hl
    go_wp2_with (first | refine wpList_load_want 66 (.tmp 3) rfl rfl _ rfl _ LD.out ?_ | refine wpList_store_at 66 (.tmp 3) (.tmp 21) rfl rfl _ _ rfl rfl w2 hrun'.out ?_)
    refine HPL.out.mono ?_
    rintro ep w3 ⟨rfl, hbel⟩
    rw [hJ.out]
    have HN3 := hide (HN2.out.trans (hbel.mono HN2.out.size))
    have hfl : ∀ w, (Instr.field 64 (.agg J.cells) 2).run Try.prog w = .ok (.agg (pcells J.ce J.cr)) w := fun w => by kernel_rfl
    rw [hJc.out.1, hJc.out.2] at hfl
    clear hbel
    go_wp2
    go_ret
    exact ⟨rfl, HN3.out⟩
end Go.Proofs.Ytphahkjjmomjcaa

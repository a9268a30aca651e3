/-
  where nobody votes nothing but the first block is ever justified, or final; but where nobody has a balance nothing is enough, either (LedgerNobody is true of every input).
-/
import Derived.Test.YtpkpjfmljgchbaaRows

import Derived.WalkKit

import Derived.Below

import Derived.ProofKit

import Derived.OpenShut

import Derived.ShutString

import Derived.ChangeOld

import Derived.Test.YtpkpjfmljgchbaaLAwake

import Derived.Test.YtpkpjfmljgchbaaEpMath

namespace Go.Proofs.Ytpkpjfmljgchbaa.ledgerNobody

open Go.ChangeShapes Go.WideShapes Go.ChangeAt Go.RowKit

set_option linter.unusedVariables false

theorem own : ownKnob Try.prog.godebug = none := by kernel_rfl
theorem laidOut : laidOutB Try.prog = true := by kernel_rfl
theorem cells3 : Try.prog.cellsOf 3 = 1 := by kernel_rfl
theorem cells4 : Try.prog.cellsOf 4 = 1 := by kernel_rfl
theorem cells5 : Try.prog.cellsOf 5 = 1 := by kernel_rfl
theorem cells22 : Try.prog.cellsOf 22 = 1 := by kernel_rfl
theorem cells24 : Try.prog.cellsOf 24 = 3 := by kernel_rfl
theorem cells32 : Try.prog.cellsOf 32 = 1 := by kernel_rfl
theorem cells58 : Try.prog.cellsOf 58 = 1 := by kernel_rfl
theorem list3 {α : Type _} {l : List α} (h : l.length = 3) : ∃ x0 x1 x2, l = [x0, x1, x2] := by
  match l, h with
  | [x0, x1, x2], _ => exact ⟨x0, x1, x2, rfl⟩
theorem first_next (e : Int) (e1 r1 e2 r2 r : Int) : (JS.first r).next e false false e1 r1 e2 r2 = JS.first r := rfl
theorem pull_none (bs : List Int) (s : Int) (f : Int → Int) (r e : Int) (n : Nat) : pullJ bs s f ⟨JS.first r, e, List.replicate n false, List.replicate n false⟩ = JS.first r := by
  show endJ f s (JS.first r) e (en bs (List.replicate n false)) (en bs (List.replicate n false)) = _
  rw [en_none]
  unfold endJ
  split
  · rfl
  · exact first_next _ _ _ _ _ _
theorem adv_none (bs : List Int) (s : Int) (f : Int → Int) (r a : Int) (n : Nat) (hn : bs.length = n) : ∀ k : Nat, advK bs s f ⟨JS.first r, 0, List.replicate n false, List.replicate n false⟩ a k = ⟨JS.first r, if k = 0 then 0 else a + k, List.replicate n false, List.replicate n false⟩
  | 0 => rfl
  | k + 1 => by
    rw [advK_succ, adv_none bs s f r a n hn k]
    show (⟨pullJ bs s f ⟨JS.first r, _, List.replicate n false, List.replicate n false⟩, a + k + 1, List.replicate n false, List.replicate bs.length false⟩ : LS) = _
    rw [pull_none, hn, if_neg (show ¬ k + 1 = 0 by omega)]
    congr 1
    omega
theorem nob_said (bs : List Int) (s : Int) (f : Int → Int) (n : Nat) (hn : bs.length = n) (slot : Int) (hs : 1 ≤ s ∧ s ≤ 64) (hsl : 0 ≤ slot ∧ slot ≤ 65535) : advS bs s f ⟨JS.first 7, 0, List.replicate n false, List.replicate n false⟩ slot = ⟨JS.first 7, if slot / s < 4096 then slot / s else 4096, List.replicate n false, List.replicate n false⟩ := by
  unfold advS
  show advK bs s f _ (epo (wrap64 (0 * s)) s) (ends (wrap64 (0 * s)) slot s).toNat = _
  rw [Int.zero_mul, show wrap64 0 = 0 from by unfold wrap64; omega]
  have h0 : epo 0 s = 0 := by unfold epo lo0; simp
  have h1 : epo slot s = slot / s := by unfold epo lo0 lo1; rw [if_neg (by omega), if_neg (by omega)]
  have h2 : 0 ≤ slot / s := Int.ediv_nonneg hsl.1 (by omega)
  unfold ends
  rw [h0, h1, Int.sub_zero, adv_none bs s f 7 0 n hn]
  congr 1
  generalize slot / s = q at h2
  split
  all_goals split
  all_goals omega

set_option maxRecDepth 100000 in
set_option maxHeartbeats 8000000 in
set_option maxRecDepth 100000 in
theorem walk (a0_0 : Option Addr) (len0_0 cap0_0 : Nat) (z0_0 : List Int) (a0_1 : Int) (a0_2 : Int) (a1 : Int) (a2 : Int) (w : World) (w0_0 : IsRow .u64 w a0_0 len0_0 cap0_0 z0_0) (w0_1 : (Lit.int .i64 a0_1).wf = true) (w0_2 : (Lit.int .i64 a0_2).wf = true) (w1 : (Lit.int .u8 a1).wf = true) (w2 : (Lit.int .u16 a2).wf = true) :
    Calls Try.prog 6 #[.agg #[.slice a0_0 len0_0 cap0_0, .int .i64 a0_1, .int .i64 a0_2], .int .u8 a1, .int .u16 a2] w fun e w' => e = .returned (.bool true) ∧ Below w.heap.size w w' := by
  have hcb := wf_u8 w1
  have hsl := wf_u16 w2
  have hw2 : IntKind.i64.wrap a2 = a2 := by rw [IntKind.wrap_i64]; omega
  clear w1 w2
  have hB0 := w0_0.row
  have hu0 := w0_0.u64
  have hs0 := wf_i64 w0_1
  have hb0 := wf_i64 w0_2
  clear w0_0 w0_1 w0_2
  generalize z0_0.take len0_0 = bs0 at *
  have HB0 := hide (hB0.alloc (cfg a0_0 len0_0 cap0_0 a0_1 a0_2))
  have HU0 := hide hu0
  have HC0 := hide (OAt.new w (cfg a0_0 len0_0 cap0_0 a0_1 a0_2))
  have HN0 := hide ((Below.refl _ w).alloc (Nat.le_refl _) (cfg a0_0 len0_0 cap0_0 a0_1 a0_2))
  clear hB0 hu0
  have hSb := mkS_b a0_1
  have hnb := mkBs_len bs0
  have hub := mkBs_b bs0
  obtain ⟨S, hS⟩ : ∃ x, Hid (mkS a0_1 = x) := ⟨_, rfl⟩
  obtain ⟨B, hB⟩ : ∃ x, Hid (mkB a0_2 = x) := ⟨_, rfl⟩
  obtain ⟨bs, hbs⟩ : ∃ x, Hid (mkBs bs0 = x) := ⟨_, rfl⟩
  rw [hS.out] at hSb
  rw [hbs.out] at hnb hub
  obtain ⟨n, hn⟩ : ∃ x, bs.length = x := ⟨_, rfl⟩
  rw [hn] at hnb
  have hn0 : 0 < n ∧ n ≤ 4096 := by omega
  have hSi : I64s S := by unfold I64s; omega
  have hu : Hid (∀ z ∈ bs, 0 ≤ z ∧ z ≤ 18446744073709551615) := hide (fun z hz => by have := hub z hz; omega)
  clear hub
  go_enter Try.func6, Try.ntmps6
  go_wp2_with fail
  refine (awake_any _).mono ?_
  rintro e w1 ⟨rfl, hbel⟩
  have HB1 := hide (HB0.out.below hbel)
  have HC1 := hide (HC0.out.below hbel)
  have HN1 := hide (HN0.out.trans (hbel.mono (by simp)))
  clear HB0 HC0 HN0 hbel
  have p0 := HC1.out.cell 0
  have p1 := HC1.out.cell 1
  have p2 := HC1.out.cell 2
  simp only [List.getElem?_toArray, List.getElem?_cons_zero, List.getElem?_cons_succ] at p0 p1 p2
  go_wp2_with fail
  refine (make_any bs0 _ _ _ _ _ _ HB1.out HU0.out hs0 hb0).mono ?_
  rintro e w2 ⟨ao, d, rfl, hR, hbel⟩
  rw [hS.out, hB.out, hbs.out, hn]
  rw [hbs.out, hn] at hR
  have HR := hide (hR.alloc (cfg ao n d S B))
  have HRF := hide (hR.far hn0.1)
  have HX := hide (OAt.new w2 (cfg ao n d S B))
  have HN := hide ((HN1.out.trans (hbel.mono HN1.out.size)).alloc (by have := HN1.out.size; have := hbel.size; omega) (cfg ao n d S B))
  have hcg : Hid (w.heap.size < w2.heap.size) := Nat.lt_of_lt_of_le HC1.out.lt hbel.size
  clear HB1 HC1 HN1 hbel p0 p1 p2 hR
  go_upto_region 4 with fail
  generalize hW : w2.alloc (cfg ao n d S B) = W at HR HX HN 
  have hWs : W.heap.size = w2.heap.size + 1 := by rw [← hW]; simp
  clear hW
  obtain ⟨hc, hhc⟩ : ∃ x, Hid (w2.heap.size = x) := ⟨_, rfl⟩
  rw [hhc.out] at HX HRF hWs hcg ⊢
  have hxs : Hid (∀ w', Below W.heap.size W w' → w'.cell? ⟨hc, 0, none⟩ = some (.slice ao n d) ∧ w'.cell? ⟨hc, 1, none⟩ = some (.int .i64 S) ∧ w'.cell? ⟨hc, 2, none⟩ = some (.int .i64 B)) := fun w' h => by
    have V := HX.out.below h
    exact ⟨V.cell 0, V.cell 1, V.cell 2⟩
  have hsaid := hide (nob_said bs S (chf a1) n hn a2 hSb hsl)
  obtain ⟨E, hE⟩ : ∃ x, Hid ((if a2 / S < 4096 then a2 / S else 4096) = x) := ⟨_, rfl⟩
  rw [hE.out] at hsaid
  go_cut [8] from 14 to 21 (fun x wx => ∃ g b1 d1 b2 d2, x = Value.pointer (some ⟨g, 0, none⟩) ∧ Hid (OAt wx g (lobj (JS.first 7) E b1 n d1 b2 n d2) ∧ W.heap.size ≤ g ∧ Below W.heap.size W wx))
  case first =>
    have HB : Hid (Below W.heap.size W W.drew) := hide (Below.refl _ _).drew
    refine wp_region_noPanic ?_
    refine wp_region_held_drew (S := fun w' => Below W.heap.size W w') (by kernel_rfl) HB.out (fun hHeld => ?_)
    replace HR := hide (HR.out.below HB.out)
    generalize W.drew = w0 at HB hHeld HR ⊢
    refine take_set (i := 0) (v := .agg #[.slice ao n d, .int .i64 S, .int .i64 B]) rfl rfl (by kernel_rfl) (by kernel_rfl) (by kernel_rfl) (fun _ _ _ h => h) (Or.inl ⟨by kernel_rfl, fun w' hSw => ?_⟩) hHeld ?_
    · have hl := hxs.out w' hSw; go_simp
    simp only [List.set_cons_succ, List.set_cons_zero]
    refine take_set (i := 1) (v := .agg #[.slice ao n d, .int .i64 S, .int .i64 B]) rfl rfl (by kernel_rfl) (by kernel_rfl) (by kernel_rfl) (fun _ _ _ h => h) (Or.inl ⟨by kernel_rfl, fun w' hSw => ?_⟩) hHeld ?_
    · have hl := hxs.out w' hSw; go_simp
    simp only [List.set_cons_succ, List.set_cons_zero]
    refine take_set (i := 3) (v := .int .u16 a2) rfl rfl (by kernel_rfl) (by kernel_rfl) (by kernel_rfl) (fun _ _ _ h => h) (Or.inl ⟨by kernel_rfl, fun w' hSw => ?_⟩) hHeld ?_
    · go_simp
    simp only [List.set_cons_succ, List.set_cons_zero]
    refine take_set (i := 4) (v := .int .i64 a2) rfl rfl (by kernel_rfl) (by kernel_rfl) (by kernel_rfl) (fun _ _ _ h => h) (Or.inl ⟨by kernel_rfl, fun w' hSw => ?_⟩) hHeld ?_
    · go_simp
    simp only [List.set_cons_succ, List.set_cons_zero]
    refine take_set (i := 5) (v := .int .u8 a1) rfl rfl (by kernel_rfl) (by kernel_rfl) (by kernel_rfl) (fun _ _ _ h => h) (Or.inl ⟨by kernel_rfl, fun w' hSw => ?_⟩) hHeld ?_
    · go_simp
    simp only [List.set_cons_succ, List.set_cons_zero]
    refine wpAnyH_ready (rs := [2, 8]) (by kernel_rfl) (by simp) ?_
    refine AllReadyH.cons (o := _) rfl (fun K hK => ?_) (AllReadyH.cons (o := _) rfl (fun K hK => ?_) (AllReadyH.nil))
    · go_simp
      refine (open_led ao n d S B 7 w0 hn0.2).mono ?_
      rintro eo wq1 ⟨g1, g2, rfl, o1, o2, l12, _, hbel⟩
      replace HR := hide (HR.out.below hbel)
      replace HB := hide (HB.out.trans (hbel.mono HB.out.size))
      have R1 := hide (RowB.obj (n := n) o1 (by simp) (by unfold maxLen; omega))
      have R2 := hide (RowB.obj (n := n) o2 (by simp) (by unfold maxLen; omega))
      have z1 : Hid (w0.heap.size ≤ wq1.heap.size) := hide hbel.size
      clear hbel o1 o2 l12
      refine hK.out _ _ (HB.out) (fun hHeld => ?_)
      clear hK K
      refine wpAnyH_ready (rs := [6, 8]) (by kernel_rfl) (by simp) ?_
      refine AllReadyH.cons (o := _) rfl (fun K hK => ?_) (AllReadyH.cons (o := _) rfl (fun K hK => ?_) (AllReadyH.nil))
      · go_simp
        refine (chain_any a1 hcb wq1).mono ?_
        rintro ek wq2 ⟨cap, rfl, hch, hbel⟩
        replace HR := hide (HR.out.below hbel)
        replace R1 := hide (R1.out.below hbel)
        replace R2 := hide (R2.out.below hbel)
        replace HB := hide (HB.out.trans (hbel.mono HB.out.size))
        have HCH := hide (hch)
        have z2 : Hid (wq1.heap.size ≤ wq2.heap.size) := hide hbel.size
        clear hbel hch
        refine hK.out _ _ (HB.out) (fun hHeld => ?_)
        clear hK K
        refine wpAnyH_ready (rs := [7, 8]) (by kernel_rfl) (by simp) ?_
        refine AllReadyH.cons (o := _) rfl (fun K hK => ?_) (AllReadyH.cons (o := _) rfl (fun K hK => ?_) (AllReadyH.nil))
        · go_simp
          refine (adv_led bs ⟨JS.first 7, 0, List.replicate n false, List.replicate n false⟩ 28 cap (chf a1) ao n d S B (some ⟨g1, 0, none⟩) n (some ⟨g2, 0, none⟩) n a2 wq2 HR.out hu.out R1.out R2.out hn0 enters_law HCH.out (show I64s 0 from by unfold I64s; omega) hSi (by unfold I64s; omega)).mono ?_
          rintro ea wq3 ⟨b1, d1, b2, d2, rfl, r1, r2, e1, e2, hbel⟩
          rw [hsaid.out] at r1 r2 ⊢
          replace HR := hide (HR.out.below hbel)
          replace R1 := hide (R1.out.below hbel)
          replace R2 := hide (R2.out.below hbel)
          replace HCH := hide (HCH.out.below hbel)
          replace HB := hide (HB.out.trans (hbel.mono HB.out.size))
          have Q1 := hide (r1)
          have Q2 := hide (r2)
          have z3 : Hid (wq2.heap.size ≤ wq3.heap.size) := hide hbel.size
          have N1 : Hid (∀ b off, b1 = some ⟨b, off, none⟩ → wq2.heap.size ≤ b ∧ b < wq3.heap.size) := hide (fun b off e => ⟨e1 b off e, r1.far (hn0.1) b off e⟩)
          have N2 : Hid (∀ b off, b2 = some ⟨b, off, none⟩ → wq2.heap.size ≤ b ∧ b < wq3.heap.size) := hide (fun b off e => ⟨e2 b off e, r2.far (hn0.1) b off e⟩)
          clear hbel r1 r2 e1 e2
          refine hK.out _ _ (HB.out) (fun hHeld => ?_)
          clear hK K
          have hbel := below_alloc wq3 (lobj jz 0 none 0 0 none 0 0)
          have HT := hide (OAt.new wq3 (lobj jz 0 none 0 0 none 0 0))
          refine wpAnyH_ready (rs := [8]) (by kernel_rfl) (by simp) ?_
          refine AllReadyH.cons (o := _) rfl (fun K hK => ?_) AllReadyH.nil
          go_simp
          refine hK.out _ _ (HB.out.trans (hbel.mono HB.out.size)) (fun hHeld => ?_)
          clear hK K
          have z4 : Hid ((wq3.alloc (lobj jz 0 none 0 0 none 0 0)).heap.size = wq3.heap.size + 1) := hide (by simp)
          generalize wq3.alloc (lobj jz 0 none 0 0 none 0 0) = wq4 at hbel HT hHeld z4 ⊢
          replace HR := hide (HR.out.below hbel)
          replace R1 := hide (R1.out.below hbel)
          replace R2 := hide (R2.out.below hbel)
          replace HCH := hide (HCH.out.below hbel)
          replace Q1 := hide (Q1.out.below hbel)
          replace Q2 := hide (Q2.out.below hbel)
          have HTs : Hid (W.heap.size ≤ wq3.heap.size) := hide HB.out.size
          replace HB := hide (HB.out.trans (hbel.mono HB.out.size))
          clear hbel
          obtain ⟨gT, gTe⟩ : ∃ x, Hid (wq3.heap.size = x) := ⟨_, rfl⟩
          rw [gTe.out] at HT HTs ⊢
          refine wpAnyH_ready (rs := [9]) (by kernel_rfl) (by simp) ?_
          refine AllReadyH.cons (o := _) rfl (fun K hK => ?_) AllReadyH.nil
          obtain ⟨wq5, hrun, hoS, haS⟩ := store_obj (P := Try.prog) (ty := 39) (n := 13) (cs := (lcells (JS.first 7) E b1 n d1 b2 n d2).toList) infoLS rfl rfl (lcells_one _ _ _ _ _ _ _ _) HT.out.at_
          have y1 := z1.out
          have y2 := z2.out
          have y3 := z3.out
          have y4 := z4.out
          have yT := HTs.out
          have yg := gTe.out
          refine step_store_at 39 (.tmp 8) (.tmp 21) rfl rfl _ _ rfl rfl wq5 hrun ?_
          have HG := hide ((show OAt wq5 gT (.cells (lcells (JS.first 7) E b1 n d1 b2 n d2) 39) from OAt.of hoS))
          have K1 := hide (Q1.out.aside haS (fun b off e => by have := N1.out b off e; omega))
          have K2 := hide (Q2.out.aside haS (fun b off e => by have := N2.out b off e; omega))
          have HBB := hide (HB.out.trans (haS.old _ HB.out.size (by omega)))
          have M1 := hide ((fun b off e => by have := N1.out b off e; omega : ∀ b off, b1 = some ⟨b, off, none⟩ → b ≠ gT))
          have M2 := hide ((fun b off e => by have := N2.out b off e; omega : ∀ b off, b2 = some ⟨b, off, none⟩ → b ≠ gT))
          refine hK.out _ _ ((HB.out.trans (haS.old _ HB.out.size (by omega)))) (fun hHeld => ?_)
          clear hK K
          refine wpAnyH_done (by kernel_rfl) ?_ _
          refine NoPanic.normal ?_
          go_wp2
          go_meet
          exact ⟨gT, b1, d1, b2, d2, rfl, hide ⟨HG.out, HTs.out, HBB.out⟩⟩
        · have hbel := below_alloc wq2 (lobj jz 0 none 0 0 none 0 0)
          have HT := hide (OAt.new wq2 (lobj jz 0 none 0 0 none 0 0))
          go_simp
          refine hK.out _ _ (HB.out.trans (hbel.mono HB.out.size)) (fun hHeld => ?_)
          clear hK K
          have z3 : Hid ((wq2.alloc (lobj jz 0 none 0 0 none 0 0)).heap.size = wq2.heap.size + 1) := hide (by simp)
          generalize wq2.alloc (lobj jz 0 none 0 0 none 0 0) = wq3 at hbel HT hHeld z3 ⊢
          replace HR := hide (HR.out.below hbel)
          replace R1 := hide (R1.out.below hbel)
          replace R2 := hide (R2.out.below hbel)
          replace HCH := hide (HCH.out.below hbel)
          have HTs : Hid (W.heap.size ≤ wq2.heap.size) := hide HB.out.size
          replace HB := hide (HB.out.trans (hbel.mono HB.out.size))
          clear hbel
          obtain ⟨gT, gTe⟩ : ∃ x, Hid (wq2.heap.size = x) := ⟨_, rfl⟩
          rw [gTe.out] at HT HTs ⊢
          refine wpAnyH_ready (rs := [7]) (by kernel_rfl) (by simp) ?_
          refine AllReadyH.cons (o := _) rfl (fun K hK => ?_) AllReadyH.nil
          go_simp
          refine (adv_led bs ⟨JS.first 7, 0, List.replicate n false, List.replicate n false⟩ 28 cap (chf a1) ao n d S B (some ⟨g1, 0, none⟩) n (some ⟨g2, 0, none⟩) n a2 wq3 HR.out hu.out R1.out R2.out hn0 enters_law HCH.out (show I64s 0 from by unfold I64s; omega) hSi (by unfold I64s; omega)).mono ?_
          rintro ea wq4 ⟨b1, d1, b2, d2, rfl, r1, r2, e1, e2, hbel⟩
          rw [hsaid.out] at r1 r2 ⊢
          replace HR := hide (HR.out.below hbel)
          replace R1 := hide (R1.out.below hbel)
          replace R2 := hide (R2.out.below hbel)
          replace HCH := hide (HCH.out.below hbel)
          replace HT := hide (HT.out.below hbel)
          replace HB := hide (HB.out.trans (hbel.mono HB.out.size))
          have Q1 := hide (r1)
          have Q2 := hide (r2)
          have z4 : Hid (wq3.heap.size ≤ wq4.heap.size) := hide hbel.size
          have N1 : Hid (∀ b off, b1 = some ⟨b, off, none⟩ → wq3.heap.size ≤ b ∧ b < wq4.heap.size) := hide (fun b off e => ⟨e1 b off e, r1.far (hn0.1) b off e⟩)
          have N2 : Hid (∀ b off, b2 = some ⟨b, off, none⟩ → wq3.heap.size ≤ b ∧ b < wq4.heap.size) := hide (fun b off e => ⟨e2 b off e, r2.far (hn0.1) b off e⟩)
          clear hbel r1 r2 e1 e2
          refine hK.out _ _ (HB.out) (fun hHeld => ?_)
          clear hK K
          refine wpAnyH_ready (rs := [9]) (by kernel_rfl) (by simp) ?_
          refine AllReadyH.cons (o := _) rfl (fun K hK => ?_) AllReadyH.nil
          obtain ⟨wq5, hrun, hoS, haS⟩ := store_obj (P := Try.prog) (ty := 39) (n := 13) (cs := (lcells (JS.first 7) E b1 n d1 b2 n d2).toList) infoLS rfl rfl (lcells_one _ _ _ _ _ _ _ _) HT.out.at_
          have y1 := z1.out
          have y2 := z2.out
          have y3 := z3.out
          have y4 := z4.out
          have yT := HTs.out
          have yg := gTe.out
          refine step_store_at 39 (.tmp 8) (.tmp 21) rfl rfl _ _ rfl rfl wq5 hrun ?_
          have HG := hide ((show OAt wq5 gT (.cells (lcells (JS.first 7) E b1 n d1 b2 n d2) 39) from OAt.of hoS))
          have K1 := hide (Q1.out.aside haS (fun b off e => by have := N1.out b off e; omega))
          have K2 := hide (Q2.out.aside haS (fun b off e => by have := N2.out b off e; omega))
          have HBB := hide (HB.out.trans (haS.old _ HB.out.size (by omega)))
          have M1 := hide ((fun b off e => by have := N1.out b off e; omega : ∀ b off, b1 = some ⟨b, off, none⟩ → b ≠ gT))
          have M2 := hide ((fun b off e => by have := N2.out b off e; omega : ∀ b off, b2 = some ⟨b, off, none⟩ → b ≠ gT))
          refine hK.out _ _ ((HB.out.trans (haS.old _ HB.out.size (by omega)))) (fun hHeld => ?_)
          clear hK K
          refine wpAnyH_done (by kernel_rfl) ?_ _
          refine NoPanic.normal ?_
          go_wp2
          go_meet
          exact ⟨gT, b1, d1, b2, d2, rfl, hide ⟨HG.out, HTs.out, HBB.out⟩⟩
      · have hbel := below_alloc wq1 (lobj jz 0 none 0 0 none 0 0)
        have HT := hide (OAt.new wq1 (lobj jz 0 none 0 0 none 0 0))
        go_simp
        refine hK.out _ _ (HB.out.trans (hbel.mono HB.out.size)) (fun hHeld => ?_)
        clear hK K
        have z2 : Hid ((wq1.alloc (lobj jz 0 none 0 0 none 0 0)).heap.size = wq1.heap.size + 1) := hide (by simp)
        generalize wq1.alloc (lobj jz 0 none 0 0 none 0 0) = wq2 at hbel HT hHeld z2 ⊢
        replace HR := hide (HR.out.below hbel)
        replace R1 := hide (R1.out.below hbel)
        replace R2 := hide (R2.out.below hbel)
        have HTs : Hid (W.heap.size ≤ wq1.heap.size) := hide HB.out.size
        replace HB := hide (HB.out.trans (hbel.mono HB.out.size))
        clear hbel
        obtain ⟨gT, gTe⟩ : ∃ x, Hid (wq1.heap.size = x) := ⟨_, rfl⟩
        rw [gTe.out] at HT HTs ⊢
        refine wpAnyH_ready (rs := [6]) (by kernel_rfl) (by simp) ?_
        refine AllReadyH.cons (o := _) rfl (fun K hK => ?_) AllReadyH.nil
        go_simp
        refine (chain_any a1 hcb wq2).mono ?_
        rintro ek wq3 ⟨cap, rfl, hch, hbel⟩
        replace HR := hide (HR.out.below hbel)
        replace R1 := hide (R1.out.below hbel)
        replace R2 := hide (R2.out.below hbel)
        replace HT := hide (HT.out.below hbel)
        replace HB := hide (HB.out.trans (hbel.mono HB.out.size))
        have HCH := hide (hch)
        have z3 : Hid (wq2.heap.size ≤ wq3.heap.size) := hide hbel.size
        clear hbel hch
        refine hK.out _ _ (HB.out) (fun hHeld => ?_)
        clear hK K
        refine wpAnyH_ready (rs := [7]) (by kernel_rfl) (by simp) ?_
        refine AllReadyH.cons (o := _) rfl (fun K hK => ?_) AllReadyH.nil
        go_simp
        refine (adv_led bs ⟨JS.first 7, 0, List.replicate n false, List.replicate n false⟩ 28 cap (chf a1) ao n d S B (some ⟨g1, 0, none⟩) n (some ⟨g2, 0, none⟩) n a2 wq3 HR.out hu.out R1.out R2.out hn0 enters_law HCH.out (show I64s 0 from by unfold I64s; omega) hSi (by unfold I64s; omega)).mono ?_
        rintro ea wq4 ⟨b1, d1, b2, d2, rfl, r1, r2, e1, e2, hbel⟩
        rw [hsaid.out] at r1 r2 ⊢
        replace HR := hide (HR.out.below hbel)
        replace R1 := hide (R1.out.below hbel)
        replace R2 := hide (R2.out.below hbel)
        replace HT := hide (HT.out.below hbel)
        replace HCH := hide (HCH.out.below hbel)
        replace HB := hide (HB.out.trans (hbel.mono HB.out.size))
        have Q1 := hide (r1)
        have Q2 := hide (r2)
        have z4 : Hid (wq3.heap.size ≤ wq4.heap.size) := hide hbel.size
        have N1 : Hid (∀ b off, b1 = some ⟨b, off, none⟩ → wq3.heap.size ≤ b ∧ b < wq4.heap.size) := hide (fun b off e => ⟨e1 b off e, r1.far (hn0.1) b off e⟩)
        have N2 : Hid (∀ b off, b2 = some ⟨b, off, none⟩ → wq3.heap.size ≤ b ∧ b < wq4.heap.size) := hide (fun b off e => ⟨e2 b off e, r2.far (hn0.1) b off e⟩)
        clear hbel r1 r2 e1 e2
        refine hK.out _ _ (HB.out) (fun hHeld => ?_)
        clear hK K
        refine wpAnyH_ready (rs := [9]) (by kernel_rfl) (by simp) ?_
        refine AllReadyH.cons (o := _) rfl (fun K hK => ?_) AllReadyH.nil
        obtain ⟨wq5, hrun, hoS, haS⟩ := store_obj (P := Try.prog) (ty := 39) (n := 13) (cs := (lcells (JS.first 7) E b1 n d1 b2 n d2).toList) infoLS rfl rfl (lcells_one _ _ _ _ _ _ _ _) HT.out.at_
        have y1 := z1.out
        have y2 := z2.out
        have y3 := z3.out
        have y4 := z4.out
        have yT := HTs.out
        have yg := gTe.out
        refine step_store_at 39 (.tmp 8) (.tmp 21) rfl rfl _ _ rfl rfl wq5 hrun ?_
        have HG := hide ((show OAt wq5 gT (.cells (lcells (JS.first 7) E b1 n d1 b2 n d2) 39) from OAt.of hoS))
        have K1 := hide (Q1.out.aside haS (fun b off e => by have := N1.out b off e; omega))
        have K2 := hide (Q2.out.aside haS (fun b off e => by have := N2.out b off e; omega))
        have HBB := hide (HB.out.trans (haS.old _ HB.out.size (by omega)))
        have M1 := hide ((fun b off e => by have := N1.out b off e; omega : ∀ b off, b1 = some ⟨b, off, none⟩ → b ≠ gT))
        have M2 := hide ((fun b off e => by have := N2.out b off e; omega : ∀ b off, b2 = some ⟨b, off, none⟩ → b ≠ gT))
        refine hK.out _ _ ((HB.out.trans (haS.old _ HB.out.size (by omega)))) (fun hHeld => ?_)
        clear hK K
        refine wpAnyH_done (by kernel_rfl) ?_ _
        refine NoPanic.normal ?_
        go_wp2
        go_meet
        exact ⟨gT, b1, d1, b2, d2, rfl, hide ⟨HG.out, HTs.out, HBB.out⟩⟩
    · have hbel := below_alloc w0 (lobj jz 0 none 0 0 none 0 0)
      have HT := hide (OAt.new w0 (lobj jz 0 none 0 0 none 0 0))
      go_simp
      refine hK.out _ _ (HB.out.trans (hbel.mono HB.out.size)) (fun hHeld => ?_)
      clear hK K
      have z1 : Hid ((w0.alloc (lobj jz 0 none 0 0 none 0 0)).heap.size = w0.heap.size + 1) := hide (by simp)
      generalize w0.alloc (lobj jz 0 none 0 0 none 0 0) = wq1 at hbel HT hHeld z1 ⊢
      replace HR := hide (HR.out.below hbel)
      have HTs : Hid (W.heap.size ≤ w0.heap.size) := hide HB.out.size
      replace HB := hide (HB.out.trans (hbel.mono HB.out.size))
      clear hbel
      obtain ⟨gT, gTe⟩ : ∃ x, Hid (w0.heap.size = x) := ⟨_, rfl⟩
      rw [gTe.out] at HT HTs ⊢
      refine wpAnyH_ready (rs := [2]) (by kernel_rfl) (by simp) ?_
      refine AllReadyH.cons (o := _) rfl (fun K hK => ?_) AllReadyH.nil
      go_simp
      refine (open_led ao n d S B 7 wq1 hn0.2).mono ?_
      rintro eo wq2 ⟨g1, g2, rfl, o1, o2, l12, _, hbel⟩
      replace HR := hide (HR.out.below hbel)
      replace HT := hide (HT.out.below hbel)
      replace HB := hide (HB.out.trans (hbel.mono HB.out.size))
      have R1 := hide (RowB.obj (n := n) o1 (by simp) (by unfold maxLen; omega))
      have R2 := hide (RowB.obj (n := n) o2 (by simp) (by unfold maxLen; omega))
      have z2 : Hid (wq1.heap.size ≤ wq2.heap.size) := hide hbel.size
      clear hbel o1 o2 l12
      refine hK.out _ _ (HB.out) (fun hHeld => ?_)
      clear hK K
      refine wpAnyH_ready (rs := [6]) (by kernel_rfl) (by simp) ?_
      refine AllReadyH.cons (o := _) rfl (fun K hK => ?_) AllReadyH.nil
      go_simp
      refine (chain_any a1 hcb wq2).mono ?_
      rintro ek wq3 ⟨cap, rfl, hch, hbel⟩
      replace HR := hide (HR.out.below hbel)
      replace HT := hide (HT.out.below hbel)
      replace R1 := hide (R1.out.below hbel)
      replace R2 := hide (R2.out.below hbel)
      replace HB := hide (HB.out.trans (hbel.mono HB.out.size))
      have HCH := hide (hch)
      have z3 : Hid (wq2.heap.size ≤ wq3.heap.size) := hide hbel.size
      clear hbel hch
      refine hK.out _ _ (HB.out) (fun hHeld => ?_)
      clear hK K
      refine wpAnyH_ready (rs := [7]) (by kernel_rfl) (by simp) ?_
      refine AllReadyH.cons (o := _) rfl (fun K hK => ?_) AllReadyH.nil
      go_simp
      refine (adv_led bs ⟨JS.first 7, 0, List.replicate n false, List.replicate n false⟩ 28 cap (chf a1) ao n d S B (some ⟨g1, 0, none⟩) n (some ⟨g2, 0, none⟩) n a2 wq3 HR.out hu.out R1.out R2.out hn0 enters_law HCH.out (show I64s 0 from by unfold I64s; omega) hSi (by unfold I64s; omega)).mono ?_
      rintro ea wq4 ⟨b1, d1, b2, d2, rfl, r1, r2, e1, e2, hbel⟩
      rw [hsaid.out] at r1 r2 ⊢
      replace HR := hide (HR.out.below hbel)
      replace HT := hide (HT.out.below hbel)
      replace R1 := hide (R1.out.below hbel)
      replace R2 := hide (R2.out.below hbel)
      replace HCH := hide (HCH.out.below hbel)
      replace HB := hide (HB.out.trans (hbel.mono HB.out.size))
      have Q1 := hide (r1)
      have Q2 := hide (r2)
      have z4 : Hid (wq3.heap.size ≤ wq4.heap.size) := hide hbel.size
      have N1 : Hid (∀ b off, b1 = some ⟨b, off, none⟩ → wq3.heap.size ≤ b ∧ b < wq4.heap.size) := hide (fun b off e => ⟨e1 b off e, r1.far (hn0.1) b off e⟩)
      have N2 : Hid (∀ b off, b2 = some ⟨b, off, none⟩ → wq3.heap.size ≤ b ∧ b < wq4.heap.size) := hide (fun b off e => ⟨e2 b off e, r2.far (hn0.1) b off e⟩)
      clear hbel r1 r2 e1 e2
      refine hK.out _ _ (HB.out) (fun hHeld => ?_)
      clear hK K
      refine wpAnyH_ready (rs := [9]) (by kernel_rfl) (by simp) ?_
      refine AllReadyH.cons (o := _) rfl (fun K hK => ?_) AllReadyH.nil
      obtain ⟨wq5, hrun, hoS, haS⟩ := store_obj (P := Try.prog) (ty := 39) (n := 13) (cs := (lcells (JS.first 7) E b1 n d1 b2 n d2).toList) infoLS rfl rfl (lcells_one _ _ _ _ _ _ _ _) HT.out.at_
      have y1 := z1.out
      have y2 := z2.out
      have y3 := z3.out
      have y4 := z4.out
      have yT := HTs.out
      have yg := gTe.out
      refine step_store_at 39 (.tmp 8) (.tmp 21) rfl rfl _ _ rfl rfl wq5 hrun ?_
      have HG := hide ((show OAt wq5 gT (.cells (lcells (JS.first 7) E b1 n d1 b2 n d2) 39) from OAt.of hoS))
      have K1 := hide (Q1.out.aside haS (fun b off e => by have := N1.out b off e; omega))
      have K2 := hide (Q2.out.aside haS (fun b off e => by have := N2.out b off e; omega))
      have HBB := hide (HB.out.trans (haS.old _ HB.out.size (by omega)))
      have M1 := hide ((fun b off e => by have := N1.out b off e; omega : ∀ b off, b1 = some ⟨b, off, none⟩ → b ≠ gT))
      have M2 := hide ((fun b off e => by have := N2.out b off e; omega : ∀ b off, b2 = some ⟨b, off, none⟩ → b ≠ gT))
      refine hK.out _ _ ((HB.out.trans (haS.old _ HB.out.size (by omega)))) (fun hHeld => ?_)
      clear hK K
      refine wpAnyH_done (by kernel_rfl) ?_ _
      refine NoPanic.normal ?_
      go_wp2
      go_meet
      exact ⟨gT, b1, d1, b2, d2, rfl, hide ⟨HG.out, HTs.out, HBB.out⟩⟩
  case rest =>
    obtain ⟨g, b1, d1, b2, d2, rfl, hcc⟩ := hcut
    obtain ⟨hG, hgW, hbel⟩ := hcc.out
    have HG := hide (hG.alloc (.cells (pcells 0 7) 34))
    have HP := hide (OAt.new wc (.cells (pcells 0 7) 34))
    have HX2 := hide ((HX.out.below hbel).alloc (.cells (pcells 0 7) 34))
    have HN2 := hide ((HN.out.trans (hbel.mono HN.out.size)).alloc (by have := HN.out.size; have := hbel.size; omega) (.cells (pcells 0 7) 34))
    clear hcc hG hbel hgW
    go_upto_region 6 with fail
    obtain ⟨W6, hW6⟩ : ∃ x, Hid (wc.alloc (.cells (pcells 0 7) 34) = x) := ⟨_, rfl⟩
    obtain ⟨p, hp⟩ : ∃ x, Hid (wc.heap.size = x) := ⟨_, rfl⟩
    rw [hW6.out] at HG HP HX2 HN2 ⊢
    rw [hp.out] at HP ⊢
    have hls : Hid (∀ w', Below W6.heap.size W6 w' → w'.cell? ⟨g, 4, none⟩ = some (.int .i64 0) ∧ w'.cell? ⟨g, 5, none⟩ = some (.int .u64 7) ∧ w'.cell? ⟨g, 6, none⟩ = some (.int .i64 0) ∧ w'.cell? ⟨g, 7, none⟩ = some (.int .u64 7) ∧ w'.cell? ⟨g, 8, none⟩ = some (.int .i64 0) ∧ w'.cell? ⟨g, 9, none⟩ = some (.int .u64 7) ∧ w'.cell? ⟨g, 10, none⟩ = some (.int .i64 E) ∧ w'.cell? ⟨p, 0, none⟩ = some (.int .i64 0) ∧ w'.cell? ⟨p, 1, none⟩ = some (.int .u64 7) ∧ w'.cell? ⟨hc, 1, none⟩ = some (.int .i64 S)) := fun w' h => by
      have V := HG.out.below h
      have U := HP.out.below h
      have X := HX2.out.below h
      exact ⟨V.cell 4, V.cell 5, V.cell 6, V.cell 7, V.cell 8, V.cell 9, V.cell 10, U.cell 0, U.cell 1, X.cell 1⟩
    have hq : (a2.tdiv S) = a2 / S := Int.tdiv_eq_ediv_of_nonneg hsl.1
    have hq0 : 0 ≤ a2 / S ∧ a2 / S ≤ 65535 := ⟨Int.ediv_nonneg hsl.1 (by omega), Int.le_trans (Int.ediv_le_self _ hsl.1) hsl.2⟩
    have hEe := hE.out
    obtain ⟨q, hqq⟩ : ∃ x, a2 / S = x := ⟨_, rfl⟩
    rw [hqq] at hq hq0 hEe
    have hS0 : ¬ S = 0 := by omega
    have hEe' := hide hEe
    clear hEe
    have hwq : IntKind.i64.wrap q = q := by rw [IntKind.wrap_i64]; omega
    have hwq2 : wrap64 q = q := by unfold wrap64; omega
    refine startG (fun w' => Below W6.heap.size W6 w') 31 (by kernel_rfl) (Below.refl _ _).drew ?_
    refine takeG (i := 0) (v := .pointer (some ⟨g, 0, none⟩)) rfl rfl (by kernel_rfl) (by kernel_rfl) (by kernel_rfl) (by kernel_rfl) (fun _ _ _ h => h) (Or.inl ⟨by kernel_rfl, fun w' hSw => Or.inl ⟨w', ?_, hSw⟩⟩) ?_
    · go_simp
    simp only [List.set_cons_succ, List.set_cons_zero]
    refine takeG (i := 1) (v := .pointer (some ⟨g, 6, none⟩)) rfl rfl (by kernel_rfl) (by kernel_rfl) (by kernel_rfl) (by kernel_rfl) (fun _ _ _ h => h) (Or.inl ⟨by kernel_rfl, fun w' hSw => Or.inl ⟨w', ?_, hSw⟩⟩) ?_
    · go_simp
    simp only [List.set_cons_succ, List.set_cons_zero]
    refine takeG (i := 2) (v := .agg (pcells 0 7)) rfl rfl (by kernel_rfl) (by kernel_rfl) (by kernel_rfl) (by kernel_rfl) (fun _ _ _ h => h) (Or.inl ⟨by kernel_rfl, fun w' hSw => Or.inl ⟨w', ?_, hSw⟩⟩) ?_
    · have hl := hls.out w' hSw; go_simp
    simp only [List.set_cons_succ, List.set_cons_zero]
    refine takeG (i := 3) (v := .agg (pcells 0 7)) rfl rfl (by kernel_rfl) (by kernel_rfl) (by kernel_rfl) (by kernel_rfl) (fun _ _ _ h => h) (Or.inl ⟨by kernel_rfl, fun w' hSw => Or.inl ⟨w', ?_, hSw⟩⟩) ?_
    · have hl := hls.out w' hSw; go_simp
    simp only [List.set_cons_succ, List.set_cons_zero]
    refine takeG (i := 4) (v := .bool true) rfl rfl (by kernel_rfl) (by kernel_rfl) (by kernel_rfl) (by kernel_rfl) (fun _ _ _ h => h) (Or.inl ⟨by kernel_rfl, fun w' hSw => Or.inl ⟨w', ?_, hSw⟩⟩) ?_
    · go_simp
    simp only [List.set_cons_succ, List.set_cons_zero]
    refine takeG (i := 5) (v := .bool true) rfl rfl (by kernel_rfl) (by kernel_rfl) (by kernel_rfl) (by kernel_rfl) (fun _ _ _ h => h) (Or.inl ⟨by kernel_rfl, fun w' hSw => Or.inl ⟨w', ?_, hSw⟩⟩) ?_
    · go_simp
    simp only [List.set_cons_succ, List.set_cons_zero]
    refine takeG (i := 6) (v := .pointer (some ⟨g, 0, none⟩)) rfl rfl (by kernel_rfl) (by kernel_rfl) (by kernel_rfl) (by kernel_rfl) (fun _ _ _ h => h) (Or.inl ⟨by kernel_rfl, fun w' hSw => Or.inl ⟨w', ?_, hSw⟩⟩) ?_
    · go_simp
    simp only [List.set_cons_succ, List.set_cons_zero]
    refine takeG (i := 7) (v := .pointer (some ⟨g, 8, none⟩)) rfl rfl (by kernel_rfl) (by kernel_rfl) (by kernel_rfl) (by kernel_rfl) (fun _ _ _ h => h) (Or.inl ⟨by kernel_rfl, fun w' hSw => Or.inl ⟨w', ?_, hSw⟩⟩) ?_
    · go_simp
    simp only [List.set_cons_succ, List.set_cons_zero]
    refine takeG (i := 8) (v := .agg (pcells 0 7)) rfl rfl (by kernel_rfl) (by kernel_rfl) (by kernel_rfl) (by kernel_rfl) (fun _ _ _ h => h) (Or.inl ⟨by kernel_rfl, fun w' hSw => Or.inl ⟨w', ?_, hSw⟩⟩) ?_
    · have hl := hls.out w' hSw; go_simp
    simp only [List.set_cons_succ, List.set_cons_zero]
    refine takeG (i := 9) (v := .agg (pcells 0 7)) rfl rfl (by kernel_rfl) (by kernel_rfl) (by kernel_rfl) (by kernel_rfl) (fun _ _ _ h => h) (Or.inl ⟨by kernel_rfl, fun w' hSw => Or.inl ⟨w', ?_, hSw⟩⟩) ?_
    · have hl := hls.out w' hSw; go_simp
    simp only [List.set_cons_succ, List.set_cons_zero]
    refine takeG (i := 10) (v := .bool true) rfl rfl (by kernel_rfl) (by kernel_rfl) (by kernel_rfl) (by kernel_rfl) (fun _ _ _ h => h) (Or.inl ⟨by kernel_rfl, fun w' hSw => Or.inl ⟨w', ?_, hSw⟩⟩) ?_
    · go_simp
    simp only [List.set_cons_succ, List.set_cons_zero]
    refine takeG (i := 11) (v := .bool true) rfl rfl (by kernel_rfl) (by kernel_rfl) (by kernel_rfl) (by kernel_rfl) (fun _ _ _ h => h) (Or.inl ⟨by kernel_rfl, fun w' hSw => Or.inl ⟨w', ?_, hSw⟩⟩) ?_
    · go_simp
    simp only [List.set_cons_succ, List.set_cons_zero]
    refine takeG (i := 12) (v := .bool true) rfl rfl (by kernel_rfl) (by kernel_rfl) (by kernel_rfl) (by kernel_rfl) (fun _ _ _ h => h) (Or.inl ⟨by kernel_rfl, fun w' hSw => Or.inl ⟨w', ?_, hSw⟩⟩) ?_
    · go_simp
    simp only [List.set_cons_succ, List.set_cons_zero]
    refine takeG (i := 13) (v := .pointer (some ⟨g, 0, none⟩)) rfl rfl (by kernel_rfl) (by kernel_rfl) (by kernel_rfl) (by kernel_rfl) (fun _ _ _ h => h) (Or.inl ⟨by kernel_rfl, fun w' hSw => Or.inl ⟨w', ?_, hSw⟩⟩) ?_
    · go_simp
    simp only [List.set_cons_succ, List.set_cons_zero]
    refine takeG (i := 14) (v := .pointer (some ⟨g, 4, none⟩)) rfl rfl (by kernel_rfl) (by kernel_rfl) (by kernel_rfl) (by kernel_rfl) (fun _ _ _ h => h) (Or.inl ⟨by kernel_rfl, fun w' hSw => Or.inl ⟨w', ?_, hSw⟩⟩) ?_
    · go_simp
    simp only [List.set_cons_succ, List.set_cons_zero]
    refine takeG (i := 15) (v := .agg (pcells 0 7)) rfl rfl (by kernel_rfl) (by kernel_rfl) (by kernel_rfl) (by kernel_rfl) (fun _ _ _ h => h) (Or.inl ⟨by kernel_rfl, fun w' hSw => Or.inl ⟨w', ?_, hSw⟩⟩) ?_
    · have hl := hls.out w' hSw; go_simp
    simp only [List.set_cons_succ, List.set_cons_zero]
    refine takeG (i := 16) (v := .agg (pcells 0 7)) rfl rfl (by kernel_rfl) (by kernel_rfl) (by kernel_rfl) (by kernel_rfl) (fun _ _ _ h => h) (Or.inl ⟨by kernel_rfl, fun w' hSw => Or.inl ⟨w', ?_, hSw⟩⟩) ?_
    · have hl := hls.out w' hSw; go_simp
    simp only [List.set_cons_succ, List.set_cons_zero]
    refine takeG (i := 17) (v := .bool true) rfl rfl (by kernel_rfl) (by kernel_rfl) (by kernel_rfl) (by kernel_rfl) (fun _ _ _ h => h) (Or.inl ⟨by kernel_rfl, fun w' hSw => Or.inl ⟨w', ?_, hSw⟩⟩) ?_
    · go_simp
    simp only [List.set_cons_succ, List.set_cons_zero]
    refine takeG (i := 18) (v := .bool true) rfl rfl (by kernel_rfl) (by kernel_rfl) (by kernel_rfl) (by kernel_rfl) (fun _ _ _ h => h) (Or.inl ⟨by kernel_rfl, fun w' hSw => Or.inl ⟨w', ?_, hSw⟩⟩) ?_
    · go_simp
    simp only [List.set_cons_succ, List.set_cons_zero]
    refine takeG (i := 19) (v := .bool true) rfl rfl (by kernel_rfl) (by kernel_rfl) (by kernel_rfl) (by kernel_rfl) (fun _ _ _ h => h) (Or.inl ⟨by kernel_rfl, fun w' hSw => Or.inl ⟨w', ?_, hSw⟩⟩) ?_
    · go_simp
    simp only [List.set_cons_succ, List.set_cons_zero]
    refine takeG (i := 20) (v := .pointer (some ⟨g, 10, none⟩)) rfl rfl (by kernel_rfl) (by kernel_rfl) (by kernel_rfl) (by kernel_rfl) (fun _ _ _ h => h) (Or.inl ⟨by kernel_rfl, fun w' hSw => Or.inl ⟨w', ?_, hSw⟩⟩) ?_
    · go_simp
    simp only [List.set_cons_succ, List.set_cons_zero]
    refine takeG (i := 21) (v := .int .i64 E) rfl rfl (by kernel_rfl) (by kernel_rfl) (by kernel_rfl) (by kernel_rfl) (fun _ _ _ h => h) (Or.inl ⟨by kernel_rfl, fun w' hSw => Or.inl ⟨w', ?_, hSw⟩⟩) ?_
    · have hl := hls.out w' hSw; go_simp
    simp only [List.set_cons_succ, List.set_cons_zero]
    refine takeG (i := 22) (v := .int .u16 a2) rfl rfl (by kernel_rfl) (by kernel_rfl) (by kernel_rfl) (by kernel_rfl) (fun _ _ _ h => h) (Or.inl ⟨by kernel_rfl, fun w' hSw => Or.inl ⟨w', ?_, hSw⟩⟩) ?_
    · go_simp
    simp only [List.set_cons_succ, List.set_cons_zero]
    refine takeG (i := 23) (v := .int .i64 a2) rfl rfl (by kernel_rfl) (by kernel_rfl) (by kernel_rfl) (by kernel_rfl) (fun _ _ _ h => h) (Or.inl ⟨by kernel_rfl, fun w' hSw => Or.inl ⟨w', ?_, hSw⟩⟩) ?_
    · go_simp
    simp only [List.set_cons_succ, List.set_cons_zero]
    refine takeG (i := 24) (v := .pointer (some ⟨hc, 1, none⟩)) rfl rfl (by kernel_rfl) (by kernel_rfl) (by kernel_rfl) (by kernel_rfl) (fun _ _ _ h => h) (Or.inl ⟨by kernel_rfl, fun w' hSw => Or.inl ⟨w', ?_, hSw⟩⟩) ?_
    · go_simp
    simp only [List.set_cons_succ, List.set_cons_zero]
    refine takeG (i := 25) (v := .int .i64 S) rfl rfl (by kernel_rfl) (by kernel_rfl) (by kernel_rfl) (by kernel_rfl) (fun _ _ _ h => h) (Or.inl ⟨by kernel_rfl, fun w' hSw => Or.inl ⟨w', ?_, hSw⟩⟩) ?_
    · have hl := hls.out w' hSw; go_simp
    simp only [List.set_cons_succ, List.set_cons_zero]
    refine takeG (i := 26) (v := .int .i64 q) rfl rfl (by kernel_rfl) (by kernel_rfl) (by kernel_rfl) (by kernel_rfl) (fun _ _ _ h => h) (Or.inl ⟨by kernel_rfl, fun w' hSw => Or.inl ⟨w', ?_, hSw⟩⟩) ?_
    · go_simp
    simp only [List.set_cons_succ, List.set_cons_zero]
    refine takeG (i := 27) (v := .int .i64 E) rfl rfl (by kernel_rfl) (by kernel_rfl) (by kernel_rfl) (by kernel_rfl) (fun _ _ _ h => h) (Or.inl ⟨by kernel_rfl, fun w' hSw => Or.inl ⟨w', ?_, hSw⟩⟩) ?_
    · go_simp; rw [← hEe'.out]; split <;> split <;> omega
    simp only [List.set_cons_succ, List.set_cons_zero]
    refine takeG (i := 28) (v := .bool true) rfl rfl (by kernel_rfl) (by kernel_rfl) (by kernel_rfl) (by kernel_rfl) (fun _ _ _ h => h) (Or.inl ⟨by kernel_rfl, fun w' hSw => Or.inl ⟨w', ?_, hSw⟩⟩) ?_
    · go_simp
    simp only [List.set_cons_succ, List.set_cons_zero]
    refine takeG (i := 29) (v := .bool true) rfl rfl (by kernel_rfl) (by kernel_rfl) (by kernel_rfl) (by kernel_rfl) (fun _ _ _ h => h) (Or.inl ⟨by kernel_rfl, fun w' hSw => Or.inl ⟨w', ?_, hSw⟩⟩) ?_
    · go_simp
    simp only [List.set_cons_succ, List.set_cons_zero]
    refine takeG (i := 30) (v := .bool true) rfl rfl (by kernel_rfl) (by kernel_rfl) (by kernel_rfl) (by kernel_rfl) (fun _ _ _ h => h) (Or.inl ⟨by kernel_rfl, fun w' hSw => Or.inl ⟨w', ?_, hSw⟩⟩) ?_
    · go_simp
    simp only [List.set_cons_succ, List.set_cons_zero]
    refine doneG (by kernel_rfl) fun w' hSw => ?_
    replace HN2 := hide (HN2.out.trans (Below.mono hSw HN2.out.size))
    clear hSw hls
    go_wp2
    go_ret
    exact ⟨rfl, HN2.out⟩

set_option maxRecDepth 100000 in
theorem lifted (os : Os) (started : os.Started) (H : Type) (enc : TypeId × Value → H) :
    ReturnsInHanded {} Try.checked os 6 .any (Rows.ledgerNobodySpec.pre6 enc Try.prog Try.f6 Rows.ledgerNobodyRow.domain false) (Rows.ledgerNobodySpec.post enc Try.prog Try.f6 false true false false) := by
  refine returnsInHanded_of_change (C := Try.checked) own started (by kernel_rfl) Try.func6
    (ChangeSpec.witness6 (enc := enc) (C := Try.checked) false ⟨#[], #[.agg #[.slice none 0 0, .int .i64 0, .int .i64 0], .int .u8 0, .int .u16 0], []⟩ 8 (by kernel_rfl) (by kernel_rfl) (by kernel_rfl) (by kernel_rfl)) ?_
  intro W base args ds gs before hval0 hW hcnd _
  have hval : ∀ (j : Nat) t v, Try.f6.params[j]? = some t → args[j]? = some v → Value.okWide Try.prog W .any base t v := hval0
  have hW' := hW
  obtain ⟨p, q, hA0, hV, rfl, hfz, hnd⟩ := hW
  have hA : DataW.TrodAll enc Try.prog W 0 (fun _ => true) true Try.f6.params.toList args.toList ds p := hA0
  rw [Try.params6] at hA hval
  obtain ⟨v0, vs0, d0, ds0, p0, q0, hargs, rfl, rfl, h0, r0⟩ := trodAll_cons hA
  obtain ⟨v1, vs1, d1, ds1, p1, q1, rfl, rfl, rfl, h1, r1⟩ := trodAll_cons r0
  obtain ⟨v2, vs2, d2, ds2, p2, q2, rfl, rfl, rfl, h2, r2⟩ := trodAll_cons r1
  obtain ⟨rfl, rfl, rfl⟩ := trodAll_nil r2
  obtain rfl : args = #[v0, v1, v2] := by cases args; simp_all
  obtain ⟨rfl, rfl⟩ := trodVars_none hV
  obtain ⟨cs0, rfl, sz0⟩ := okWide_struct Try.underlying24 (hval 0 24 v0 rfl rfl)
  rw [cells24] at sz0
  obtain ⟨l0⟩ := cs0
  obtain ⟨c0_0, c0_1, c0_2, rfl⟩ := list3 (show l0.length = 3 from sz0)
  clear sz0
  have k0 := h0
  have lt0 : ∀ x ∈ p0, x.block < W.heap.size := by obtain ⟨m, hm⟩ := k0; exact DataW.trod_lt m _ _ _ hm
  obtain ⟨fuel0, hf0⟩ := h0
  simp only [Value.cells] at hf0
  obtain ⟨xs0_0t24, n0_0t24, _, hx0_0t24, _, hlen0_0t24, hf0_0t24⟩ := DataW.trod_struct Try.underlying24 hf0
  obtain ⟨y0_0t24_0, y0_0t24_1, y0_0t24_2, rfl⟩ := list3 (show xs0_0t24.length = 3 from hlen0_0t24)
  have hy0_0t24_0 : DataW.trod enc Try.prog W 0 (fun _ => true) true n0_0t24 22 [c0_0] = some y0_0t24_0 := by simpa [Value.cells, cells3, cells4, cells5, cells22, cells24, cells32, cells58] using hf0_0t24 0 _ rfl
  have hy0_0t24_1 : DataW.trod enc Try.prog W 0 (fun _ => true) true n0_0t24 3 [c0_1] = some y0_0t24_1 := by simpa [Value.cells, cells3, cells4, cells5, cells22, cells24, cells32, cells58] using hf0_0t24 1 _ rfl
  have hy0_0t24_2 : DataW.trod enc Try.prog W 0 (fun _ => true) true n0_0t24 3 [c0_2] = some y0_0t24_2 := by simpa [Value.cells, cells3, cells4, cells5, cells22, cells24, cells32, cells58] using hf0_0t24 2 _ rfl
  obtain ⟨a0_0, len0_0, cap0_0, z0_0, e0_0, w0_0⟩ : ∃ a len cap zs, c0_0 = .slice a len cap ∧ IsRow .u64 W a len cap zs := by
    rcases open_ints Try.underlying22 Try.underlying32 (by kernel_rfl) hy0_0t24_0 with ⟨hcs, _⟩ | ⟨x, l, c, zs, hcs, _, hl, hm, hz, _, hcell, hwz⟩
    · simp at hcs
      exact ⟨none, 0, 0, [], hcs, .inl ⟨rfl, rfl, rfl, rfl⟩⟩
    · simp at hcs
      exact ⟨_, _, _, zs, hcs, .inr ⟨_, rfl, hl, hm, by simpa using hz, hcell, hwz⟩⟩
  subst e0_0
  obtain ⟨a0_1, e0_1, x0_1, w0_1⟩ := DataW.trod_int Try.underlying3 hy0_0t24_1
  simp at e0_1
  subst e0_1
  obtain ⟨a0_2, e0_2, x0_2, w0_2⟩ := DataW.trod_int Try.underlying3 hy0_0t24_2
  simp at e0_2
  subst e0_2
  obtain ⟨a1, rfl, rfl, rfl, w1⟩ := open_int Try.underlying5 (hval 1 5 v1 rfl rfl) h1
  obtain ⟨a2, rfl, rfl, rfl, w2⟩ := open_int Try.underlying58 (hval 2 58 v2 rfl rfl) h2
  clear hA0 hval0
  refine (walk a0_0 len0_0 cap0_0 z0_0 a0_1 a0_2 a1 a2 W w0_0 w0_1 w0_2 w1 w2).mono fun e W' ⟨he, bel⟩ => ?_
  subst he
  exact ⟨_, rfl, _, _, _, [], _, [], hW', trodAll_mk1 (shut_bool Try.underlying4 _), (trodAll_cons_mk (Below.trod laidOut (by kernel_rfl) (of_decide_eq_true (by kernel_rfl)) k0 bel lt0) (trodAll_cons_mk (shut_int Try.underlying5 w1) (trodAll_cons_mk (shut_int Try.underlying58 w2) trodAll_mk0))), rfl, bel.frame _, fun h => by cases h⟩

theorem over : Rows.ledgerNobodyRow.holds Try.pinned (OpenSpec.ofChange Rows.ledgerNobodySpec) :=
  OpenClaim.holds_of_wide 6 Try.f6 rfl rfl rfl rfl rfl rfl rfl ⟨rfl, rfl, rfl, rfl, rfl⟩ rfl rfl rfl rfl rfl (by kernel_rfl) Try.func6 (by kernel_rfl)
    (of_decide_eq_true (by kernel_rfl)) (by unfold Func.isWrapper; first | (rw [if_pos (by decide +kernel)]; kernel_rfl) | (rw [if_neg (by decide +kernel)]; exact ⟨rfl, rfl⟩))
    (fun os started H enc _ => lifted os started H enc)

theorem proved : Rows.LedgerNobodySaid := over
end Go.Proofs.Ytpkpjfmljgchbaa.ledgerNobody

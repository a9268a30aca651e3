/-
  epochs that end, and votes that count, are what the document says, deed by deed (LedgerScript is true of every input).
-/
import Derived.Test.YtphahkjjmomjcaaRows

import Derived.WalkKit

import Derived.Below

import Derived.ProofKit

import Derived.OpenShut

import Derived.ShutString

import Derived.ChangeOld

import Derived.SizedLaws

import Derived.Test.YtphahkjjmomjcaaShapesS

import Derived.Test.YtphahkjjmomjcaaLAwake

import Derived.Test.YtphahkjjmomjcaaLSame

import Derived.Test.YtphahkjjmomjcaaLHelp2

import Derived.Test.YtphahkjjmomjcaaLLaw

import Derived.Test.YtphahkjjmomjcaaLLCnt3

import Derived.Test.YtphahkjjmomjcaaLSMath

import Derived.Test.YtphahkjjmomjcaaLActs

import Derived.Test.YtphahkjjmomjcaaShapesS

import Derived.Test.YtphahkjjmomjcaaHand

import Derived.Test.YtphahkjjmomjcaaLStat

import Derived.Test.YtphahkjjmomjcaaHandZ

import Derived.Test.YtphahkjjmomjcaaRegG

namespace Go.Proofs.Ytphahkjjmomjcaa.ledgerScript

open Go.ChangeShapes Go.WideShapes Go.ChangeAt Go.RowKit

set_option linter.unusedVariables false

theorem own : ownKnob Try.prog.godebug = none := by kernel_rfl
theorem laidOut : laidOutB Try.prog = true := by kernel_rfl
theorem cells3 : Try.prog.cellsOf 3 = 1 := by kernel_rfl
theorem cells4 : Try.prog.cellsOf 4 = 1 := by kernel_rfl
theorem cells5 : Try.prog.cellsOf 5 = 1 := by kernel_rfl
theorem cells22 : Try.prog.cellsOf 22 = 1 := by kernel_rfl
theorem cells24 : Try.prog.cellsOf 24 = 3 := by kernel_rfl
theorem cells37 : Try.prog.cellsOf 37 = 1 := by kernel_rfl
theorem cells56 : Try.prog.cellsOf 56 = 1 := by kernel_rfl
theorem cells62 : Try.prog.cellsOf 62 = 2 := by kernel_rfl
theorem cells68 : Try.prog.cellsOf 68 = 1 := by kernel_rfl
theorem cells70 : Try.prog.cellsOf 70 = 7 := by kernel_rfl
theorem cells72 : Try.prog.cellsOf 72 = 9 := by kernel_rfl
theorem list3 {α : Type _} {l : List α} (h : l.length = 3) : ∃ x0 x1 x2, l = [x0, x1, x2] := by
  match l, h with
  | [x0, x1, x2], _ => exact ⟨x0, x1, x2, rfl⟩
theorem has5 : Sh.Has Try.prog (.int .u8) (.inl 5) := Try.underlying5
theorem has3 : Sh.Has Try.prog (.int .i64) (.inl 3) := Try.underlying3
theorem has37 : Sh.Has Try.prog (.int .u64) (.inl 37) := Try.underlying37
theorem has62 : Sh.Has Try.prog (.st (.pair (.int .i64) (.pair (.int .u64) .unit))) (.inl 62) := Sh.has_st Try.underlying62 (by kernel_rfl) (Sh.has_pair rfl (by kernel_rfl) has3 (Sh.has_pair rfl (by kernel_rfl) has37 Sh.has_unit))
theorem has68 : Sh.Has Try.prog (.slice (.int .i64)) (.inl 68) := Sh.has_slice Try.underlying68 (by kernel_rfl) (by decide) has3
theorem has70 : Sh.Has Try.prog (.st (.pair (.int .i64) (.pair (.int .u64) (.pair (.st (.pair (.int .i64) (.pair (.int .u64) .unit))) (.pair (.st (.pair (.int .i64) (.pair (.int .u64) .unit))) (.pair (.slice (.int .i64)) .unit)))))) (.inl 70) := Sh.has_st Try.underlying70 (by kernel_rfl) (Sh.has_pair rfl (by kernel_rfl) has3 (Sh.has_pair rfl (by kernel_rfl) has37 (Sh.has_pair rfl (by kernel_rfl) has62 (Sh.has_pair rfl (by kernel_rfl) has62 (Sh.has_pair rfl (by kernel_rfl) has68 Sh.has_unit)))))
theorem has72 : Sh.Has Try.prog (.st (.pair (.int .u8) (.pair (.int .u8) (.pair (.st (.pair (.int .i64) (.pair (.int .u64) (.pair (.st (.pair (.int .i64) (.pair (.int .u64) .unit))) (.pair (.st (.pair (.int .i64) (.pair (.int .u64) .unit))) (.pair (.slice (.int .i64)) .unit)))))) .unit)))) (.inl 72) := Sh.has_st Try.underlying72 (by kernel_rfl) (Sh.has_pair rfl (by kernel_rfl) has5 (Sh.has_pair rfl (by kernel_rfl) has5 (Sh.has_pair rfl (by kernel_rfl) has70 Sh.has_unit)))
theorem has56 : Sh.Has Try.prog (.slice (.st (.pair (.int .u8) (.pair (.int .u8) (.pair (.st (.pair (.int .i64) (.pair (.int .u64) (.pair (.st (.pair (.int .i64) (.pair (.int .u64) .unit))) (.pair (.st (.pair (.int .i64) (.pair (.int .u64) .unit))) (.pair (.slice (.int .i64)) .unit)))))) .unit))))) (.inl 56) := Sh.has_slice Try.underlying56 (by kernel_rfl) (by decide) has72

set_option maxRecDepth 100000 in
set_option maxHeartbeats 16000000 in
set_option maxRecDepth 100000 in
theorem walk (a0_0 : Option Addr) (len0_0 cap0_0 : Nat) (z0_0 : List Int) (a0_1 : Int) (a0_2 : Int) (a1 : Int) (a2 : Option Addr) (len2 cap2 : Nat) (e2 : Sh.Val (.slice (.st (.pair (.int .u8) (.pair (.int .u8) (.pair (.st (.pair (.int .i64) (.pair (.int .u64) (.pair (.st (.pair (.int .i64) (.pair (.int .u64) .unit))) (.pair (.st (.pair (.int .i64) (.pair (.int .u64) .unit))) (.pair (.slice (.int .i64)) .unit)))))) .unit)))))) (w : World) (w0_0 : IsRow .u64 w a0_0 len0_0 cap0_0 z0_0) (w0_1 : (Lit.int .i64 a0_1).wf = true) (w0_2 : (Lit.int .i64 a0_2).wf = true) (w1 : (Lit.int .u8 a1).wf = true) (w2 : Sh.In (.slice (.st (.pair (.int .u8) (.pair (.int .u8) (.pair (.st (.pair (.int .i64) (.pair (.int .u64) (.pair (.st (.pair (.int .i64) (.pair (.int .u64) .unit))) (.pair (.st (.pair (.int .i64) (.pair (.int .u64) .unit))) (.pair (.slice (.int .i64)) .unit)))))) .unit))))) w [.slice a2 len2 cap2] e2) (r2S : Sh.Sz Try.prog reachBytes (.slice (.st (.pair (.int .u8) (.pair (.int .u8) (.pair (.st (.pair (.int .i64) (.pair (.int .u64) (.pair (.st (.pair (.int .i64) (.pair (.int .u64) .unit))) (.pair (.st (.pair (.int .i64) (.pair (.int .u64) .unit))) (.pair (.slice (.int .i64)) .unit)))))) .unit))))) (.inl 56) e2) :
    Calls Try.prog 9 #[.agg #[.slice a0_0 len0_0 cap0_0, .int .i64 a0_1, .int .i64 a0_2], .int .u8 a1, .slice a2 len2 cap2] w fun e w' => e = .returned (.bool true) ∧ Below w.heap.size w w' := by
  have hcb := wf_u8 w1
  have HSC := hide ((script_of w2).below (below_alloc w (cfg a0_0 len0_0 cap0_0 a0_1 a0_2)))
  obtain ⟨i0, hi, hz0, hz1, hz2⟩ := info_parts infoB
  have hml : len2 ≤ maxLen := (script_of w2).1
  unfold maxLen at hml
  have hlen2 : len2 * 80 ≤ 140737488351232 := by
    obtain ⟨e, he, hle, _⟩ := r2S
    obtain ⟨ao, nn, cc, ee, hrow⟩ := w2
    simp at ee
    obtain ⟨rfl, rfl, rfl⟩ := ee
    have hl := hrow.len
    rw [Try.underlying56] at he
    cases he
    rw [hl, show Try.prog.bytesOf 72 = 80 from by kernel_rfl] at hle
    simpa [reachBytes] using hle
  clear w1 w2 r2S
  have hB0 := w0_0.row
  have hu0 := w0_0.u64
  have hs0 := wf_i64 w0_1
  have hb0 := wf_i64 w0_2
  clear w0_0 w0_1 w0_2
  generalize z0_0.take len0_0 = bs0 at *
  have HB0 := hide (hB0.alloc (cfg a0_0 len0_0 cap0_0 a0_1 a0_2))
  have HU0 := hide hu0
  have HC0 := hide (OAt.new w (cfg a0_0 len0_0 cap0_0 a0_1 a0_2))
  have HN0 := hide ((Below.refl _ w).alloc (Nat.le_refl _) (cfg a0_0 len0_0 cap0_0 a0_1 a0_2))
  clear hB0 hu0
  have hSb := mkS_b a0_1
  have hnb := mkBs_len bs0
  have hub := mkBs_b bs0
  obtain ⟨S, hS⟩ : ∃ x, Hid (mkS a0_1 = x) := ⟨_, rfl⟩
  obtain ⟨B, hB⟩ : ∃ x, Hid (mkB a0_2 = x) := ⟨_, rfl⟩
  obtain ⟨bs, hbs⟩ : ∃ x, Hid (mkBs bs0 = x) := ⟨_, rfl⟩
  rw [hS.out] at hSb
  rw [hbs.out] at hnb hub
  obtain ⟨n, hn⟩ : ∃ x, bs.length = x := ⟨_, rfl⟩
  rw [hn] at hnb
  have hn0 : 0 < n ∧ n ≤ 4096 := by omega
  have hSi : I64s S := by unfold I64s; omega
  have hu : Hid (∀ z ∈ bs, 0 ≤ z ∧ z ≤ 18446744073709551615) := hide (fun z hz => by have := hub z hz; omega)
  clear hub
  go_enter Try.func9, Try.ntmps9
  go_wp2_with fail
  refine (awake_any _).mono ?_
  rintro e w1 ⟨rfl, hbel⟩
  have HB1 := hide (HB0.out.below hbel)
  have HC1 := hide (HC0.out.below hbel)
  have HN1 := hide (HN0.out.trans (hbel.mono (by simp)))
  replace HSC := hide (HSC.out.below hbel)
  clear HB0 HC0 HN0 hbel
  have p0 := HC1.out.cell 0
  have p1 := HC1.out.cell 1
  have p2 := HC1.out.cell 2
  simp only [List.getElem?_toArray, List.getElem?_cons_zero, List.getElem?_cons_succ] at p0 p1 p2
  go_wp2_with fail
  refine (make_any bs0 _ _ _ _ _ _ HB1.out HU0.out hs0 hb0).mono ?_
  rintro e w2 ⟨ao, d, rfl, hR, hbel⟩
  rw [hS.out, hB.out, hbs.out, hn]
  rw [hbs.out, hn] at hR
  have HR := hide (hR.alloc (cfg ao n d S B))
  have HRF := hide (hR.far hn0.1)
  have HX := hide (OAt.new w2 (cfg ao n d S B))
  have HN := hide ((HN1.out.trans (hbel.mono HN1.out.size)).alloc (by have := HN1.out.size; have := hbel.size; omega) (cfg ao n d S B))
  replace HSC := hide ((HSC.out.below hbel).alloc (cfg ao n d S B))
  have hcg : Hid (w.heap.size < w2.heap.size) := Nat.lt_of_lt_of_le HC1.out.lt hbel.size
  clear HB1 HC1 HN1 hbel p0 p1 p2 hR
  go_upto_region 4 with fail
  generalize hW : w2.alloc (cfg ao n d S B) = W at HR HX HN HSC
  have hWs : W.heap.size = w2.heap.size + 1 := by rw [← hW]; simp
  clear hW
  obtain ⟨hc, hhc⟩ : ∃ x, Hid (w2.heap.size = x) := ⟨_, rfl⟩
  rw [hhc.out] at HX HRF hWs hcg ⊢
  have hxs : Hid (∀ w', Below W.heap.size W w' → w'.cell? ⟨hc, 0, none⟩ = some (.slice ao n d) ∧ w'.cell? ⟨hc, 1, none⟩ = some (.int .i64 S) ∧ w'.cell? ⟨hc, 2, none⟩ = some (.int .i64 B)) := fun w' h => by
    have V := HX.out.below h
    exact ⟨V.cell 0, V.cell 1, V.cell 2⟩
  go_wp2_with fail
  refine (chain_any a1 hcb W).mono ?_
  rintro ek W1 ⟨cap, rfl, hch, hbel⟩
  obtain ⟨f, hf⟩ : ∃ x, Hid (chf a1 = x) := ⟨_, rfl⟩
  rw [hf.out] at hch
  have HCH := hide hch
  replace HX := hide (HX.out.below hbel)
  replace HR := hide (HR.out.below hbel)
  replace HSC := hide (HSC.out.below hbel)
  replace HN := hide (HN.out.trans (hbel.mono HN.out.size))
  have hW1 := hbel.size
  have q0 := HX.out.cell 0
  have q1 := HX.out.cell 1
  have q2 := HX.out.cell 2
  simp only [List.getElem?_toArray, List.getElem?_cons_zero, List.getElem?_cons_succ] at q0 q1 q2
  clear hch hbel hxs hf
  go_wp2_with fail
  refine (open_led ao n d S B 7 W1 hn0.2).mono ?_
  rintro eo W2 ⟨g1, g2, rfl, o1, o2, l12, l1, hbel⟩
  have HT := OAt.new W2 (lobj jz 0 none 0 0 none 0 0)
  obtain ⟨W3, hrun, ho3, ha3⟩ := store_obj (P := Try.prog) (ty := 66) (n := 13) (cs := (lcells (JS.first 7) 0 (some ⟨g1, 0, none⟩) n n (some ⟨g2, 0, none⟩) n n).toList) infoLS rfl rfl (lcells_one _ _ _ _ _ _ _ _) HT.at_
  have hrun' := hide hrun
  have hb23 : Below W2.heap.size W2 W3 := (below_alloc W2 (lobj jz 0 none 0 0 none 0 0)).trans (ha3.old W2.heap.size (by simp) (Nat.le_refl _))
  have L2 := o2.lt
  have HB1 := hide (hbel.trans (hb23.mono hbel.size))
  have R1 := hide (RowB.obj (n := n) (o1.below hb23) (by simp) (by unfold maxLen; omega))
  have R2 := hide (RowB.obj (n := n) (o2.below hb23) (by simp) (by unfold maxLen; omega))
  obtain ⟨gs, hgs⟩ : ∃ x, Hid (W2.heap.size = x) := ⟨_, rfl⟩
  have HS3 : Hid (OAt W3 gs (lobj (JS.first 7) 0 (some ⟨g1, 0, none⟩) n n (some ⟨g2, 0, none⟩) n n)) := by rw [← hgs.out]; exact OAt.of ho3
  have hsz : Hid (hc < W1.heap.size ∧ W1.heap.size ≤ g1 ∧ g1 < g2 ∧ g2 < gs ∧ gs < W3.heap.size) := hide ⟨by omega, l1, l12, by rw [← hgs.out]; exact L2, HS3.out.lt⟩
  clear q0 q1 q2 hbel o1 o2 l12 l1 HT hrun ho3 ha3 hb23 L2 hcg
  go_upto_region 6 with (refine wpList_store_at 66 (.tmp 9) (.tmp 27) rfl rfl _ _ rfl rfl W3 hrun'.out ?_)
  rw [hgs.out]
  clear hrun' hgs
  have hX3 := HX.out.below HB1.out
  have q0 := hX3.cell 0
  have s4 := HS3.out.cell 4
  have s5 := HS3.out.cell 5
  have s6 := HS3.out.cell 6
  have s7 := HS3.out.cell 7
  have s8 := HS3.out.cell 8
  have s9 := HS3.out.cell 9
  have s10 := HS3.out.cell 10
  have s11 := HS3.out.cell 11
  have s12 := HS3.out.cell 12
  simp only [List.getElem?_toArray, List.getElem?_cons_zero, List.getElem?_cons_succ] at q0 s4 s5 s6 s7 s8 s9 s10 s11 s12
  clear hX3
  go_upto_region 9 with fail
  clear q0 s4 s5 s6 s7 s8 s9 s10 s11 s12
  have HXv := hide (HX.out.below HB1.out)
  have hq0 : Hid (∀ w', Below W3.heap.size W3 w' → w'.cell? ⟨hc, 0, none⟩ = some (.slice ao n d)) := fun w' h => (HXv.out.below h).cell 0
  have hmk := run_make_row (P := Try.prog) 26 4 i0 (.bool false) Try.underlying26 hi hz0 hz1 rfl .i64 .i64 n (by rw [hz2]; omega) (by omega)
  have hmb := made_bools n
  go_cut [11] from 65 to 77 (fun x wx => ∃ g m1 m2, x = Value.pointer (some ⟨g, 0, none⟩) ∧ Hid (OAt wx g (lobj (JS.first 7) 0 (some ⟨m1, 0, none⟩) n n (some ⟨m2, 0, none⟩) n n) ∧ OAt wx m1 (bobj (List.replicate n false)) ∧ OAt wx m2 (bobj (List.replicate n false)) ∧ m1 ≠ g ∧ m2 ≠ g ∧ W3.heap.size ≤ g ∧ W3.heap.size ≤ m1 ∧ W3.heap.size ≤ m2 ∧ Below W3.heap.size W3 wx))
  case first =>
    replace hmb := hide hmb
    have HB : Hid (Below W3.heap.size W3 W3.drew) := hide (Below.refl _ _).drew
    refine wp_region_noPanic ?_
    refine wp_region_held_drew (S := fun w' => Below W3.heap.size W3 w') (by kernel_rfl) HB.out (fun hHeld => ?_)
    generalize W3.drew = w0 at HB hHeld  ⊢
    refine take_set (i := 0) (v := .agg (pcells 0 7)) rfl rfl (by kernel_rfl) (by kernel_rfl) (by kernel_rfl) (fun _ _ _ h => h) (Or.inl ⟨by kernel_rfl, fun w' hSw => ?_⟩) hHeld ?_
    · go_simp
    simp only [List.set_cons_succ, List.set_cons_zero]
    refine take_set (i := 1) (v := .agg (pcells 0 7)) rfl rfl (by kernel_rfl) (by kernel_rfl) (by kernel_rfl) (fun _ _ _ h => h) (Or.inl ⟨by kernel_rfl, fun w' hSw => ?_⟩) hHeld ?_
    · go_simp
    simp only [List.set_cons_succ, List.set_cons_zero]
    refine take_set (i := 2) (v := .agg (pcells 0 7)) rfl rfl (by kernel_rfl) (by kernel_rfl) (by kernel_rfl) (fun _ _ _ h => h) (Or.inl ⟨by kernel_rfl, fun w' hSw => ?_⟩) hHeld ?_
    · go_simp
    simp only [List.set_cons_succ, List.set_cons_zero]
    refine take_set (i := 3) (v := .agg (JS.first 7).cells) rfl rfl (by kernel_rfl) (by kernel_rfl) (by kernel_rfl) (fun _ _ _ h => h) (Or.inl ⟨by kernel_rfl, fun w' hSw => ?_⟩) hHeld ?_
    · go_simp; simp [JS.first]
    simp only [List.set_cons_succ, List.set_cons_zero]
    refine take_set (i := 4) (v := .pointer (some ⟨hc, 0, none⟩)) rfl rfl (by kernel_rfl) (by kernel_rfl) (by kernel_rfl) (fun _ _ _ h => h) (Or.inl ⟨by kernel_rfl, fun w' hSw => ?_⟩) hHeld ?_
    · go_simp
    simp only [List.set_cons_succ, List.set_cons_zero]
    refine take_set (i := 5) (v := .slice ao n d) rfl rfl (by kernel_rfl) (by kernel_rfl) (by kernel_rfl) (fun _ _ _ h => h) (Or.inl ⟨by kernel_rfl, fun w' hSw => ?_⟩) hHeld ?_
    · have hl := hq0.out w' hSw; go_simp
    simp only [List.set_cons_succ, List.set_cons_zero]
    refine take_set (i := 6) (v := .int .i64 (n : Int)) rfl rfl (by kernel_rfl) (by kernel_rfl) (by kernel_rfl) (fun _ _ _ h => h) (Or.inl ⟨by kernel_rfl, fun w' hSw => ?_⟩) hHeld ?_
    · go_simp
    simp only [List.set_cons_succ, List.set_cons_zero]
    refine take_set (i := 8) (v := .pointer (some ⟨hc, 0, none⟩)) rfl rfl (by kernel_rfl) (by kernel_rfl) (by kernel_rfl) (fun _ _ _ h => h) (Or.inl ⟨by kernel_rfl, fun w' hSw => ?_⟩) hHeld ?_
    · go_simp
    simp only [List.set_cons_succ, List.set_cons_zero]
    refine take_set (i := 9) (v := .slice ao n d) rfl rfl (by kernel_rfl) (by kernel_rfl) (by kernel_rfl) (fun _ _ _ h => h) (Or.inl ⟨by kernel_rfl, fun w' hSw => ?_⟩) hHeld ?_
    · have hl := hq0.out w' hSw; go_simp
    simp only [List.set_cons_succ, List.set_cons_zero]
    refine take_set (i := 10) (v := .int .i64 (n : Int)) rfl rfl (by kernel_rfl) (by kernel_rfl) (by kernel_rfl) (fun _ _ _ h => h) (Or.inl ⟨by kernel_rfl, fun w' hSw => ?_⟩) hHeld ?_
    · go_simp
    simp only [List.set_cons_succ, List.set_cons_zero]
    refine wpAnyH_ready (rs := [7, 11, 13]) (by kernel_rfl) (by simp) ?_
    refine AllReadyH.cons (o := _) rfl (fun K hK => ?_) (AllReadyH.cons (o := _) rfl (fun K hK => ?_) (AllReadyH.cons (o := _) rfl (fun K hK => ?_) (AllReadyH.nil)))
    · have hbel := below_alloc w0 (.cells (madeCells #[Value.bool false] n) 4)
      have HM1 := hide (OAt.new w0 (.cells (madeCells #[Value.bool false] n) 4))
      go_simp
      refine hK.out _ _ (HB.out.trans (hbel.mono HB.out.size)) (fun hHeld => ?_)
      clear hK K
      have z1 : Hid ((w0.alloc (.cells (madeCells #[Value.bool false] n) 4)).heap.size = w0.heap.size + 1) := hide (by simp)
      generalize w0.alloc (.cells (madeCells #[Value.bool false] n) 4) = wq1 at hbel HM1 hHeld z1 ⊢
      have HM1s : Hid (W3.heap.size ≤ w0.heap.size) := hide HB.out.size
      replace HB := hide (HB.out.trans (hbel.mono HB.out.size))
      clear hbel
      obtain ⟨gM1, gM1e⟩ : ∃ x, Hid (w0.heap.size = x) := ⟨_, rfl⟩
      rw [gM1e.out] at HM1 HM1s ⊢
      refine wpAnyH_ready (rs := [11, 13]) (by kernel_rfl) (by simp) ?_
      refine AllReadyH.cons (o := _) rfl (fun K hK => ?_) (AllReadyH.cons (o := _) rfl (fun K hK => ?_) (AllReadyH.nil))
      · have hbel := below_alloc wq1 (.cells (madeCells #[Value.bool false] n) 4)
        have HM2 := hide (OAt.new wq1 (.cells (madeCells #[Value.bool false] n) 4))
        go_simp
        refine hK.out _ _ (HB.out.trans (hbel.mono HB.out.size)) (fun hHeld => ?_)
        clear hK K
        have z2 : Hid ((wq1.alloc (.cells (madeCells #[Value.bool false] n) 4)).heap.size = wq1.heap.size + 1) := hide (by simp)
        generalize wq1.alloc (.cells (madeCells #[Value.bool false] n) 4) = wq2 at hbel HM2 hHeld z2 ⊢
        replace HM1 := hide (HM1.out.below hbel)
        have HM2s : Hid (W3.heap.size ≤ wq1.heap.size) := hide HB.out.size
        replace HB := hide (HB.out.trans (hbel.mono HB.out.size))
        clear hbel
        obtain ⟨gM2, gM2e⟩ : ∃ x, Hid (wq1.heap.size = x) := ⟨_, rfl⟩
        rw [gM2e.out] at HM2 HM2s ⊢
        refine take_set (i := 12) (v := .agg (lcells (JS.first 7) 0 (some ⟨gM1, 0, none⟩) n n (some ⟨gM2, 0, none⟩) n n)) rfl rfl (by kernel_rfl) (by kernel_rfl) (by kernel_rfl) (fun _ _ _ h => h) (Or.inl ⟨by kernel_rfl, fun w' hSw => ?_⟩) hHeld ?_
        · go_simp
        simp only [List.set_cons_succ, List.set_cons_zero]
        have hbel := below_alloc wq2 (lobj jz 0 none 0 0 none 0 0)
        have HT := hide (OAt.new wq2 (lobj jz 0 none 0 0 none 0 0))
        refine wpAnyH_ready (rs := [13]) (by kernel_rfl) (by simp) ?_
        refine AllReadyH.cons (o := _) rfl (fun K hK => ?_) AllReadyH.nil
        go_simp
        refine hK.out _ _ (HB.out.trans (hbel.mono HB.out.size)) (fun hHeld => ?_)
        clear hK K
        have z3 : Hid ((wq2.alloc (lobj jz 0 none 0 0 none 0 0)).heap.size = wq2.heap.size + 1) := hide (by simp)
        generalize wq2.alloc (lobj jz 0 none 0 0 none 0 0) = wq3 at hbel HT hHeld z3 ⊢
        replace HM1 := hide (HM1.out.below hbel)
        replace HM2 := hide (HM2.out.below hbel)
        have HTs : Hid (W3.heap.size ≤ wq2.heap.size) := hide HB.out.size
        replace HB := hide (HB.out.trans (hbel.mono HB.out.size))
        clear hbel
        obtain ⟨gT, gTe⟩ : ∃ x, Hid (wq2.heap.size = x) := ⟨_, rfl⟩
        rw [gTe.out] at HT HTs ⊢
        refine wpAnyH_ready (rs := [14]) (by kernel_rfl) (by simp) ?_
        refine AllReadyH.cons (o := _) rfl (fun K hK => ?_) AllReadyH.nil
        obtain ⟨wq4, hrun, hoS, haS⟩ := store_obj (P := Try.prog) (ty := 66) (n := 13) (cs := (lcells (JS.first 7) 0 (some ⟨gM1, 0, none⟩) n n (some ⟨gM2, 0, none⟩) n n).toList) infoLS rfl rfl (lcells_one _ _ _ _ _ _ _ _) HT.out.at_
        have y1 := z1.out
        have y2 := z2.out
        have y3 := z3.out
        have yT := HTs.out
        have yg := gTe.out
        have y1 := gM1e.out
        have y2 := gM2e.out
        have y3 := HM1s.out
        have y4 := HM2s.out
        refine step_store_at 66 (.tmp 11) (.tmp 77) rfl rfl _ _ rfl rfl wq4 hrun ?_
        have HG := hide ((show OAt wq4 gT (lobj (JS.first 7) 0 (some ⟨gM1, 0, none⟩) n n (some ⟨gM2, 0, none⟩) n n) from OAt.of hoS))
        have K1 := hide (HM1.out.apart haS (by omega))
        have K2 := hide (HM2.out.apart haS (by omega))
        have HQ := hide ((⟨by omega, by omega, by omega, by omega, by omega⟩ : gM1 ≠ gT ∧ gM2 ≠ gT ∧ W3.heap.size ≤ gT ∧ W3.heap.size ≤ gM1 ∧ W3.heap.size ≤ gM2))
        have HBB := hide (HB.out.trans (haS.old _ HB.out.size (by omega)))
        refine hK.out _ _ ((HB.out.trans (haS.old _ HB.out.size (by omega)))) (fun hHeld => ?_)
        clear hK K
        refine wpAnyH_done (by kernel_rfl) ?_ _
        refine NoPanic.normal ?_
        go_wp2
        go_meet
        obtain ⟨q1, q2, q3, q4, q5⟩ := HQ.out
        exact ⟨gT, gM1, gM2, rfl, hide ⟨HG.out, by unfold bobj; rw [← hmb.out]; exact K1.out, by unfold bobj; rw [← hmb.out]; exact K2.out, q1, q2, q3, q4, q5, HBB.out⟩⟩
      · have hbel := below_alloc wq1 (lobj jz 0 none 0 0 none 0 0)
        have HT := hide (OAt.new wq1 (lobj jz 0 none 0 0 none 0 0))
        go_simp
        refine hK.out _ _ (HB.out.trans (hbel.mono HB.out.size)) (fun hHeld => ?_)
        clear hK K
        have z2 : Hid ((wq1.alloc (lobj jz 0 none 0 0 none 0 0)).heap.size = wq1.heap.size + 1) := hide (by simp)
        generalize wq1.alloc (lobj jz 0 none 0 0 none 0 0) = wq2 at hbel HT hHeld z2 ⊢
        replace HM1 := hide (HM1.out.below hbel)
        have HTs : Hid (W3.heap.size ≤ wq1.heap.size) := hide HB.out.size
        replace HB := hide (HB.out.trans (hbel.mono HB.out.size))
        clear hbel
        obtain ⟨gT, gTe⟩ : ∃ x, Hid (wq1.heap.size = x) := ⟨_, rfl⟩
        rw [gTe.out] at HT HTs ⊢
        have hbel := below_alloc wq2 (.cells (madeCells #[Value.bool false] n) 4)
        have HM2 := hide (OAt.new wq2 (.cells (madeCells #[Value.bool false] n) 4))
        refine wpAnyH_ready (rs := [11]) (by kernel_rfl) (by simp) ?_
        refine AllReadyH.cons (o := _) rfl (fun K hK => ?_) AllReadyH.nil
        go_simp
        refine hK.out _ _ (HB.out.trans (hbel.mono HB.out.size)) (fun hHeld => ?_)
        clear hK K
        have z3 : Hid ((wq2.alloc (.cells (madeCells #[Value.bool false] n) 4)).heap.size = wq2.heap.size + 1) := hide (by simp)
        generalize wq2.alloc (.cells (madeCells #[Value.bool false] n) 4) = wq3 at hbel HM2 hHeld z3 ⊢
        replace HM1 := hide (HM1.out.below hbel)
        replace HT := hide (HT.out.below hbel)
        have HM2s : Hid (W3.heap.size ≤ wq2.heap.size) := hide HB.out.size
        replace HB := hide (HB.out.trans (hbel.mono HB.out.size))
        clear hbel
        obtain ⟨gM2, gM2e⟩ : ∃ x, Hid (wq2.heap.size = x) := ⟨_, rfl⟩
        rw [gM2e.out] at HM2 HM2s ⊢
        refine take_set (i := 12) (v := .agg (lcells (JS.first 7) 0 (some ⟨gM1, 0, none⟩) n n (some ⟨gM2, 0, none⟩) n n)) rfl rfl (by kernel_rfl) (by kernel_rfl) (by kernel_rfl) (fun _ _ _ h => h) (Or.inl ⟨by kernel_rfl, fun w' hSw => ?_⟩) hHeld ?_
        · go_simp
        simp only [List.set_cons_succ, List.set_cons_zero]
        refine wpAnyH_ready (rs := [14]) (by kernel_rfl) (by simp) ?_
        refine AllReadyH.cons (o := _) rfl (fun K hK => ?_) AllReadyH.nil
        obtain ⟨wq4, hrun, hoS, haS⟩ := store_obj (P := Try.prog) (ty := 66) (n := 13) (cs := (lcells (JS.first 7) 0 (some ⟨gM1, 0, none⟩) n n (some ⟨gM2, 0, none⟩) n n).toList) infoLS rfl rfl (lcells_one _ _ _ _ _ _ _ _) HT.out.at_
        have y1 := z1.out
        have y2 := z2.out
        have y3 := z3.out
        have yT := HTs.out
        have yg := gTe.out
        have y1 := gM1e.out
        have y2 := gM2e.out
        have y3 := HM1s.out
        have y4 := HM2s.out
        refine step_store_at 66 (.tmp 11) (.tmp 77) rfl rfl _ _ rfl rfl wq4 hrun ?_
        have HG := hide ((show OAt wq4 gT (lobj (JS.first 7) 0 (some ⟨gM1, 0, none⟩) n n (some ⟨gM2, 0, none⟩) n n) from OAt.of hoS))
        have K1 := hide (HM1.out.apart haS (by omega))
        have K2 := hide (HM2.out.apart haS (by omega))
        have HQ := hide ((⟨by omega, by omega, by omega, by omega, by omega⟩ : gM1 ≠ gT ∧ gM2 ≠ gT ∧ W3.heap.size ≤ gT ∧ W3.heap.size ≤ gM1 ∧ W3.heap.size ≤ gM2))
        have HBB := hide (HB.out.trans (haS.old _ HB.out.size (by omega)))
        refine hK.out _ _ ((HB.out.trans (haS.old _ HB.out.size (by omega)))) (fun hHeld => ?_)
        clear hK K
        refine wpAnyH_done (by kernel_rfl) ?_ _
        refine NoPanic.normal ?_
        go_wp2
        go_meet
        obtain ⟨q1, q2, q3, q4, q5⟩ := HQ.out
        exact ⟨gT, gM1, gM2, rfl, hide ⟨HG.out, by unfold bobj; rw [← hmb.out]; exact K1.out, by unfold bobj; rw [← hmb.out]; exact K2.out, q1, q2, q3, q4, q5, HBB.out⟩⟩
    · have hbel := below_alloc w0 (.cells (madeCells #[Value.bool false] n) 4)
      have HM2 := hide (OAt.new w0 (.cells (madeCells #[Value.bool false] n) 4))
      go_simp
      refine hK.out _ _ (HB.out.trans (hbel.mono HB.out.size)) (fun hHeld => ?_)
      clear hK K
      have z1 : Hid ((w0.alloc (.cells (madeCells #[Value.bool false] n) 4)).heap.size = w0.heap.size + 1) := hide (by simp)
      generalize w0.alloc (.cells (madeCells #[Value.bool false] n) 4) = wq1 at hbel HM2 hHeld z1 ⊢
      have HM2s : Hid (W3.heap.size ≤ w0.heap.size) := hide HB.out.size
      replace HB := hide (HB.out.trans (hbel.mono HB.out.size))
      clear hbel
      obtain ⟨gM2, gM2e⟩ : ∃ x, Hid (w0.heap.size = x) := ⟨_, rfl⟩
      rw [gM2e.out] at HM2 HM2s ⊢
      refine wpAnyH_ready (rs := [7, 13]) (by kernel_rfl) (by simp) ?_
      refine AllReadyH.cons (o := _) rfl (fun K hK => ?_) (AllReadyH.cons (o := _) rfl (fun K hK => ?_) (AllReadyH.nil))
      · have hbel := below_alloc wq1 (.cells (madeCells #[Value.bool false] n) 4)
        have HM1 := hide (OAt.new wq1 (.cells (madeCells #[Value.bool false] n) 4))
        go_simp
        refine hK.out _ _ (HB.out.trans (hbel.mono HB.out.size)) (fun hHeld => ?_)
        clear hK K
        have z2 : Hid ((wq1.alloc (.cells (madeCells #[Value.bool false] n) 4)).heap.size = wq1.heap.size + 1) := hide (by simp)
        generalize wq1.alloc (.cells (madeCells #[Value.bool false] n) 4) = wq2 at hbel HM1 hHeld z2 ⊢
        replace HM2 := hide (HM2.out.below hbel)
        have HM1s : Hid (W3.heap.size ≤ wq1.heap.size) := hide HB.out.size
        replace HB := hide (HB.out.trans (hbel.mono HB.out.size))
        clear hbel
        obtain ⟨gM1, gM1e⟩ : ∃ x, Hid (wq1.heap.size = x) := ⟨_, rfl⟩
        rw [gM1e.out] at HM1 HM1s ⊢
        refine take_set (i := 12) (v := .agg (lcells (JS.first 7) 0 (some ⟨gM1, 0, none⟩) n n (some ⟨gM2, 0, none⟩) n n)) rfl rfl (by kernel_rfl) (by kernel_rfl) (by kernel_rfl) (fun _ _ _ h => h) (Or.inl ⟨by kernel_rfl, fun w' hSw => ?_⟩) hHeld ?_
        · go_simp
        simp only [List.set_cons_succ, List.set_cons_zero]
        have hbel := below_alloc wq2 (lobj jz 0 none 0 0 none 0 0)
        have HT := hide (OAt.new wq2 (lobj jz 0 none 0 0 none 0 0))
        refine wpAnyH_ready (rs := [13]) (by kernel_rfl) (by simp) ?_
        refine AllReadyH.cons (o := _) rfl (fun K hK => ?_) AllReadyH.nil
        go_simp
        refine hK.out _ _ (HB.out.trans (hbel.mono HB.out.size)) (fun hHeld => ?_)
        clear hK K
        have z3 : Hid ((wq2.alloc (lobj jz 0 none 0 0 none 0 0)).heap.size = wq2.heap.size + 1) := hide (by simp)
        generalize wq2.alloc (lobj jz 0 none 0 0 none 0 0) = wq3 at hbel HT hHeld z3 ⊢
        replace HM2 := hide (HM2.out.below hbel)
        replace HM1 := hide (HM1.out.below hbel)
        have HTs : Hid (W3.heap.size ≤ wq2.heap.size) := hide HB.out.size
        replace HB := hide (HB.out.trans (hbel.mono HB.out.size))
        clear hbel
        obtain ⟨gT, gTe⟩ : ∃ x, Hid (wq2.heap.size = x) := ⟨_, rfl⟩
        rw [gTe.out] at HT HTs ⊢
        refine wpAnyH_ready (rs := [14]) (by kernel_rfl) (by simp) ?_
        refine AllReadyH.cons (o := _) rfl (fun K hK => ?_) AllReadyH.nil
        obtain ⟨wq4, hrun, hoS, haS⟩ := store_obj (P := Try.prog) (ty := 66) (n := 13) (cs := (lcells (JS.first 7) 0 (some ⟨gM1, 0, none⟩) n n (some ⟨gM2, 0, none⟩) n n).toList) infoLS rfl rfl (lcells_one _ _ _ _ _ _ _ _) HT.out.at_
        have y1 := z1.out
        have y2 := z2.out
        have y3 := z3.out
        have yT := HTs.out
        have yg := gTe.out
        have y1 := gM1e.out
        have y2 := gM2e.out
        have y3 := HM1s.out
        have y4 := HM2s.out
        refine step_store_at 66 (.tmp 11) (.tmp 77) rfl rfl _ _ rfl rfl wq4 hrun ?_
        have HG := hide ((show OAt wq4 gT (lobj (JS.first 7) 0 (some ⟨gM1, 0, none⟩) n n (some ⟨gM2, 0, none⟩) n n) from OAt.of hoS))
        have K1 := hide (HM1.out.apart haS (by omega))
        have K2 := hide (HM2.out.apart haS (by omega))
        have HQ := hide ((⟨by omega, by omega, by omega, by omega, by omega⟩ : gM1 ≠ gT ∧ gM2 ≠ gT ∧ W3.heap.size ≤ gT ∧ W3.heap.size ≤ gM1 ∧ W3.heap.size ≤ gM2))
        have HBB := hide (HB.out.trans (haS.old _ HB.out.size (by omega)))
        refine hK.out _ _ ((HB.out.trans (haS.old _ HB.out.size (by omega)))) (fun hHeld => ?_)
        clear hK K
        refine wpAnyH_done (by kernel_rfl) ?_ _
        refine NoPanic.normal ?_
        go_wp2
        go_meet
        obtain ⟨q1, q2, q3, q4, q5⟩ := HQ.out
        exact ⟨gT, gM1, gM2, rfl, hide ⟨HG.out, by unfold bobj; rw [← hmb.out]; exact K1.out, by unfold bobj; rw [← hmb.out]; exact K2.out, q1, q2, q3, q4, q5, HBB.out⟩⟩
      · have hbel := below_alloc wq1 (lobj jz 0 none 0 0 none 0 0)
        have HT := hide (OAt.new wq1 (lobj jz 0 none 0 0 none 0 0))
        go_simp
        refine hK.out _ _ (HB.out.trans (hbel.mono HB.out.size)) (fun hHeld => ?_)
        clear hK K
        have z2 : Hid ((wq1.alloc (lobj jz 0 none 0 0 none 0 0)).heap.size = wq1.heap.size + 1) := hide (by simp)
        generalize wq1.alloc (lobj jz 0 none 0 0 none 0 0) = wq2 at hbel HT hHeld z2 ⊢
        replace HM2 := hide (HM2.out.below hbel)
        have HTs : Hid (W3.heap.size ≤ wq1.heap.size) := hide HB.out.size
        replace HB := hide (HB.out.trans (hbel.mono HB.out.size))
        clear hbel
        obtain ⟨gT, gTe⟩ : ∃ x, Hid (wq1.heap.size = x) := ⟨_, rfl⟩
        rw [gTe.out] at HT HTs ⊢
        have hbel := below_alloc wq2 (.cells (madeCells #[Value.bool false] n) 4)
        have HM1 := hide (OAt.new wq2 (.cells (madeCells #[Value.bool false] n) 4))
        refine wpAnyH_ready (rs := [7]) (by kernel_rfl) (by simp) ?_
        refine AllReadyH.cons (o := _) rfl (fun K hK => ?_) AllReadyH.nil
        go_simp
        refine hK.out _ _ (HB.out.trans (hbel.mono HB.out.size)) (fun hHeld => ?_)
        clear hK K
        have z3 : Hid ((wq2.alloc (.cells (madeCells #[Value.bool false] n) 4)).heap.size = wq2.heap.size + 1) := hide (by simp)
        generalize wq2.alloc (.cells (madeCells #[Value.bool false] n) 4) = wq3 at hbel HM1 hHeld z3 ⊢
        replace HM2 := hide (HM2.out.below hbel)
        replace HT := hide (HT.out.below hbel)
        have HM1s : Hid (W3.heap.size ≤ wq2.heap.size) := hide HB.out.size
        replace HB := hide (HB.out.trans (hbel.mono HB.out.size))
        clear hbel
        obtain ⟨gM1, gM1e⟩ : ∃ x, Hid (wq2.heap.size = x) := ⟨_, rfl⟩
        rw [gM1e.out] at HM1 HM1s ⊢
        refine take_set (i := 12) (v := .agg (lcells (JS.first 7) 0 (some ⟨gM1, 0, none⟩) n n (some ⟨gM2, 0, none⟩) n n)) rfl rfl (by kernel_rfl) (by kernel_rfl) (by kernel_rfl) (fun _ _ _ h => h) (Or.inl ⟨by kernel_rfl, fun w' hSw => ?_⟩) hHeld ?_
        · go_simp
        simp only [List.set_cons_succ, List.set_cons_zero]
        refine wpAnyH_ready (rs := [14]) (by kernel_rfl) (by simp) ?_
        refine AllReadyH.cons (o := _) rfl (fun K hK => ?_) AllReadyH.nil
        obtain ⟨wq4, hrun, hoS, haS⟩ := store_obj (P := Try.prog) (ty := 66) (n := 13) (cs := (lcells (JS.first 7) 0 (some ⟨gM1, 0, none⟩) n n (some ⟨gM2, 0, none⟩) n n).toList) infoLS rfl rfl (lcells_one _ _ _ _ _ _ _ _) HT.out.at_
        have y1 := z1.out
        have y2 := z2.out
        have y3 := z3.out
        have yT := HTs.out
        have yg := gTe.out
        have y1 := gM1e.out
        have y2 := gM2e.out
        have y3 := HM1s.out
        have y4 := HM2s.out
        refine step_store_at 66 (.tmp 11) (.tmp 77) rfl rfl _ _ rfl rfl wq4 hrun ?_
        have HG := hide ((show OAt wq4 gT (lobj (JS.first 7) 0 (some ⟨gM1, 0, none⟩) n n (some ⟨gM2, 0, none⟩) n n) from OAt.of hoS))
        have K1 := hide (HM1.out.apart haS (by omega))
        have K2 := hide (HM2.out.apart haS (by omega))
        have HQ := hide ((⟨by omega, by omega, by omega, by omega, by omega⟩ : gM1 ≠ gT ∧ gM2 ≠ gT ∧ W3.heap.size ≤ gT ∧ W3.heap.size ≤ gM1 ∧ W3.heap.size ≤ gM2))
        have HBB := hide (HB.out.trans (haS.old _ HB.out.size (by omega)))
        refine hK.out _ _ ((HB.out.trans (haS.old _ HB.out.size (by omega)))) (fun hHeld => ?_)
        clear hK K
        refine wpAnyH_done (by kernel_rfl) ?_ _
        refine NoPanic.normal ?_
        go_wp2
        go_meet
        obtain ⟨q1, q2, q3, q4, q5⟩ := HQ.out
        exact ⟨gT, gM1, gM2, rfl, hide ⟨HG.out, by unfold bobj; rw [← hmb.out]; exact K1.out, by unfold bobj; rw [← hmb.out]; exact K2.out, q1, q2, q3, q4, q5, HBB.out⟩⟩
    · have hbel := below_alloc w0 (lobj jz 0 none 0 0 none 0 0)
      have HT := hide (OAt.new w0 (lobj jz 0 none 0 0 none 0 0))
      go_simp
      refine hK.out _ _ (HB.out.trans (hbel.mono HB.out.size)) (fun hHeld => ?_)
      clear hK K
      have z1 : Hid ((w0.alloc (lobj jz 0 none 0 0 none 0 0)).heap.size = w0.heap.size + 1) := hide (by simp)
      generalize w0.alloc (lobj jz 0 none 0 0 none 0 0) = wq1 at hbel HT hHeld z1 ⊢
      have HTs : Hid (W3.heap.size ≤ w0.heap.size) := hide HB.out.size
      replace HB := hide (HB.out.trans (hbel.mono HB.out.size))
      clear hbel
      obtain ⟨gT, gTe⟩ : ∃ x, Hid (w0.heap.size = x) := ⟨_, rfl⟩
      rw [gTe.out] at HT HTs ⊢
      refine wpAnyH_ready (rs := [7, 11]) (by kernel_rfl) (by simp) ?_
      refine AllReadyH.cons (o := _) rfl (fun K hK => ?_) (AllReadyH.cons (o := _) rfl (fun K hK => ?_) (AllReadyH.nil))
      · have hbel := below_alloc wq1 (.cells (madeCells #[Value.bool false] n) 4)
        have HM1 := hide (OAt.new wq1 (.cells (madeCells #[Value.bool false] n) 4))
        go_simp
        refine hK.out _ _ (HB.out.trans (hbel.mono HB.out.size)) (fun hHeld => ?_)
        clear hK K
        have z2 : Hid ((wq1.alloc (.cells (madeCells #[Value.bool false] n) 4)).heap.size = wq1.heap.size + 1) := hide (by simp)
        generalize wq1.alloc (.cells (madeCells #[Value.bool false] n) 4) = wq2 at hbel HM1 hHeld z2 ⊢
        replace HT := hide (HT.out.below hbel)
        have HM1s : Hid (W3.heap.size ≤ wq1.heap.size) := hide HB.out.size
        replace HB := hide (HB.out.trans (hbel.mono HB.out.size))
        clear hbel
        obtain ⟨gM1, gM1e⟩ : ∃ x, Hid (wq1.heap.size = x) := ⟨_, rfl⟩
        rw [gM1e.out] at HM1 HM1s ⊢
        have hbel := below_alloc wq2 (.cells (madeCells #[Value.bool false] n) 4)
        have HM2 := hide (OAt.new wq2 (.cells (madeCells #[Value.bool false] n) 4))
        refine wpAnyH_ready (rs := [11]) (by kernel_rfl) (by simp) ?_
        refine AllReadyH.cons (o := _) rfl (fun K hK => ?_) AllReadyH.nil
        go_simp
        refine hK.out _ _ (HB.out.trans (hbel.mono HB.out.size)) (fun hHeld => ?_)
        clear hK K
        have z3 : Hid ((wq2.alloc (.cells (madeCells #[Value.bool false] n) 4)).heap.size = wq2.heap.size + 1) := hide (by simp)
        generalize wq2.alloc (.cells (madeCells #[Value.bool false] n) 4) = wq3 at hbel HM2 hHeld z3 ⊢
        replace HT := hide (HT.out.below hbel)
        replace HM1 := hide (HM1.out.below hbel)
        have HM2s : Hid (W3.heap.size ≤ wq2.heap.size) := hide HB.out.size
        replace HB := hide (HB.out.trans (hbel.mono HB.out.size))
        clear hbel
        obtain ⟨gM2, gM2e⟩ : ∃ x, Hid (wq2.heap.size = x) := ⟨_, rfl⟩
        rw [gM2e.out] at HM2 HM2s ⊢
        refine take_set (i := 12) (v := .agg (lcells (JS.first 7) 0 (some ⟨gM1, 0, none⟩) n n (some ⟨gM2, 0, none⟩) n n)) rfl rfl (by kernel_rfl) (by kernel_rfl) (by kernel_rfl) (fun _ _ _ h => h) (Or.inl ⟨by kernel_rfl, fun w' hSw => ?_⟩) hHeld ?_
        · go_simp
        simp only [List.set_cons_succ, List.set_cons_zero]
        refine wpAnyH_ready (rs := [14]) (by kernel_rfl) (by simp) ?_
        refine AllReadyH.cons (o := _) rfl (fun K hK => ?_) AllReadyH.nil
        obtain ⟨wq4, hrun, hoS, haS⟩ := store_obj (P := Try.prog) (ty := 66) (n := 13) (cs := (lcells (JS.first 7) 0 (some ⟨gM1, 0, none⟩) n n (some ⟨gM2, 0, none⟩) n n).toList) infoLS rfl rfl (lcells_one _ _ _ _ _ _ _ _) HT.out.at_
        have y1 := z1.out
        have y2 := z2.out
        have y3 := z3.out
        have yT := HTs.out
        have yg := gTe.out
        have y1 := gM1e.out
        have y2 := gM2e.out
        have y3 := HM1s.out
        have y4 := HM2s.out
        refine step_store_at 66 (.tmp 11) (.tmp 77) rfl rfl _ _ rfl rfl wq4 hrun ?_
        have HG := hide ((show OAt wq4 gT (lobj (JS.first 7) 0 (some ⟨gM1, 0, none⟩) n n (some ⟨gM2, 0, none⟩) n n) from OAt.of hoS))
        have K1 := hide (HM1.out.apart haS (by omega))
        have K2 := hide (HM2.out.apart haS (by omega))
        have HQ := hide ((⟨by omega, by omega, by omega, by omega, by omega⟩ : gM1 ≠ gT ∧ gM2 ≠ gT ∧ W3.heap.size ≤ gT ∧ W3.heap.size ≤ gM1 ∧ W3.heap.size ≤ gM2))
        have HBB := hide (HB.out.trans (haS.old _ HB.out.size (by omega)))
        refine hK.out _ _ ((HB.out.trans (haS.old _ HB.out.size (by omega)))) (fun hHeld => ?_)
        clear hK K
        refine wpAnyH_done (by kernel_rfl) ?_ _
        refine NoPanic.normal ?_
        go_wp2
        go_meet
        obtain ⟨q1, q2, q3, q4, q5⟩ := HQ.out
        exact ⟨gT, gM1, gM2, rfl, hide ⟨HG.out, by unfold bobj; rw [← hmb.out]; exact K1.out, by unfold bobj; rw [← hmb.out]; exact K2.out, q1, q2, q3, q4, q5, HBB.out⟩⟩
      · have hbel := below_alloc wq1 (.cells (madeCells #[Value.bool false] n) 4)
        have HM2 := hide (OAt.new wq1 (.cells (madeCells #[Value.bool false] n) 4))
        go_simp
        refine hK.out _ _ (HB.out.trans (hbel.mono HB.out.size)) (fun hHeld => ?_)
        clear hK K
        have z2 : Hid ((wq1.alloc (.cells (madeCells #[Value.bool false] n) 4)).heap.size = wq1.heap.size + 1) := hide (by simp)
        generalize wq1.alloc (.cells (madeCells #[Value.bool false] n) 4) = wq2 at hbel HM2 hHeld z2 ⊢
        replace HT := hide (HT.out.below hbel)
        have HM2s : Hid (W3.heap.size ≤ wq1.heap.size) := hide HB.out.size
        replace HB := hide (HB.out.trans (hbel.mono HB.out.size))
        clear hbel
        obtain ⟨gM2, gM2e⟩ : ∃ x, Hid (wq1.heap.size = x) := ⟨_, rfl⟩
        rw [gM2e.out] at HM2 HM2s ⊢
        have hbel := below_alloc wq2 (.cells (madeCells #[Value.bool false] n) 4)
        have HM1 := hide (OAt.new wq2 (.cells (madeCells #[Value.bool false] n) 4))
        refine wpAnyH_ready (rs := [7]) (by kernel_rfl) (by simp) ?_
        refine AllReadyH.cons (o := _) rfl (fun K hK => ?_) AllReadyH.nil
        go_simp
        refine hK.out _ _ (HB.out.trans (hbel.mono HB.out.size)) (fun hHeld => ?_)
        clear hK K
        have z3 : Hid ((wq2.alloc (.cells (madeCells #[Value.bool false] n) 4)).heap.size = wq2.heap.size + 1) := hide (by simp)
        generalize wq2.alloc (.cells (madeCells #[Value.bool false] n) 4) = wq3 at hbel HM1 hHeld z3 ⊢
        replace HT := hide (HT.out.below hbel)
        replace HM2 := hide (HM2.out.below hbel)
        have HM1s : Hid (W3.heap.size ≤ wq2.heap.size) := hide HB.out.size
        replace HB := hide (HB.out.trans (hbel.mono HB.out.size))
        clear hbel
        obtain ⟨gM1, gM1e⟩ : ∃ x, Hid (wq2.heap.size = x) := ⟨_, rfl⟩
        rw [gM1e.out] at HM1 HM1s ⊢
        refine take_set (i := 12) (v := .agg (lcells (JS.first 7) 0 (some ⟨gM1, 0, none⟩) n n (some ⟨gM2, 0, none⟩) n n)) rfl rfl (by kernel_rfl) (by kernel_rfl) (by kernel_rfl) (fun _ _ _ h => h) (Or.inl ⟨by kernel_rfl, fun w' hSw => ?_⟩) hHeld ?_
        · go_simp
        simp only [List.set_cons_succ, List.set_cons_zero]
        refine wpAnyH_ready (rs := [14]) (by kernel_rfl) (by simp) ?_
        refine AllReadyH.cons (o := _) rfl (fun K hK => ?_) AllReadyH.nil
        obtain ⟨wq4, hrun, hoS, haS⟩ := store_obj (P := Try.prog) (ty := 66) (n := 13) (cs := (lcells (JS.first 7) 0 (some ⟨gM1, 0, none⟩) n n (some ⟨gM2, 0, none⟩) n n).toList) infoLS rfl rfl (lcells_one _ _ _ _ _ _ _ _) HT.out.at_
        have y1 := z1.out
        have y2 := z2.out
        have y3 := z3.out
        have yT := HTs.out
        have yg := gTe.out
        have y1 := gM1e.out
        have y2 := gM2e.out
        have y3 := HM1s.out
        have y4 := HM2s.out
        refine step_store_at 66 (.tmp 11) (.tmp 77) rfl rfl _ _ rfl rfl wq4 hrun ?_
        have HG := hide ((show OAt wq4 gT (lobj (JS.first 7) 0 (some ⟨gM1, 0, none⟩) n n (some ⟨gM2, 0, none⟩) n n) from OAt.of hoS))
        have K1 := hide (HM1.out.apart haS (by omega))
        have K2 := hide (HM2.out.apart haS (by omega))
        have HQ := hide ((⟨by omega, by omega, by omega, by omega, by omega⟩ : gM1 ≠ gT ∧ gM2 ≠ gT ∧ W3.heap.size ≤ gT ∧ W3.heap.size ≤ gM1 ∧ W3.heap.size ≤ gM2))
        have HBB := hide (HB.out.trans (haS.old _ HB.out.size (by omega)))
        refine hK.out _ _ ((HB.out.trans (haS.old _ HB.out.size (by omega)))) (fun hHeld => ?_)
        clear hK K
        refine wpAnyH_done (by kernel_rfl) ?_ _
        refine NoPanic.normal ?_
        go_wp2
        go_meet
        obtain ⟨q1, q2, q3, q4, q5⟩ := HQ.out
        exact ⟨gT, gM1, gM2, rfl, hide ⟨HG.out, by unfold bobj; rw [← hmb.out]; exact K1.out, by unfold bobj; rw [← hmb.out]; exact K2.out, q1, q2, q3, q4, q5, HBB.out⟩⟩
  case rest =>
    obtain ⟨gw, m1, m2, rfl, hcc⟩ := hcut
    obtain ⟨hG, hM1, hM2, p1, p2, p3, p4, p5, hbel⟩ := hcc.out
    have HGW := hide hG
    have HR1 := hide (RowB.obj (n := n) hM1 (by simp) (by unfold maxLen; omega))
    have HR2 := hide (RowB.obj (n := n) hM2 (by simp) (by unfold maxLen; omega))
    have HBV := hide (HB1.out.trans (hbel.mono HB1.out.size))
    have HGS := hide (HS3.out.below hbel)
    have HS1 := hide (R1.out.below hbel)
    have HS2 := hide (R2.out.below hbel)
    clear hcc hG hM1 hM2 hbel HS3 R1 R2 HB1 HXv hq0 hmb
    have HL := hide (show L3 W1.heap.size n gs gw ⟨JS.first 7, 0, List.replicate n false, List.replicate n false⟩ ⟨JS.first 7, 0, List.replicate n false, List.replicate n false⟩ wc from by
      have hz := hsz.out
      have hgw := p3
      refine ⟨_, _, _, _, _, _, _, _, HGS.out, HS1.out, HS2.out, HGW.out, HR1.out, HR2.out, by omega, by omega, by omega, ?_, ?_, ?_, ?_⟩ <;> intro g off e <;> cases e <;> omega)
    have HBV := hide HBV.out
    clear HGS HS1 HS2 HGW HR1 HR2
    have henl := @enters_law
    have hcW : Hid (hc < W1.heap.size) := hide hsz.out.1
    clear hsz p1 p2 p3 p4 p5
    obtain ⟨W4, rfl⟩ : ∃ x, x = wc := ⟨_, rfl⟩
    go_wp2_with fail
    go_loopw [10, 80] (fun u v wr => ∃ (i : Nat) (t : Int), v = .int .i64 (i : Int) ∧ u = .int .i64 t ∧ i ≤ len2 ∧ 0 ≤ t ∧ t ≤ 255 * (i : Int) ∧ Hid (∃ Q : LS, Q.e = t / S ∧ L3 W1.heap.size n gs gw Q Q wr ∧ Below W1.heap.size W1 wr)) (fun _ v _ => len2 - (intOf v).toNat)
    case atStart => exact ⟨0, 0, rfl, rfl, Nat.zero_le _, by omega, by omega, hide ⟨_, by simp, HL.out, HBV.out⟩⟩
    case round =>
      clear HL HBV
      obtain ⟨i, t, rfl, rfl, hil, ht0, ht1, hI⟩ := hrel
      obtain ⟨Q, hQe, hL, hB⟩ := hI.out
      obtain ⟨b1, d1, b2, d2, b3, d3, b4, d4, hL⟩ := hL
      have HQ := hide hQe
      have H2 := hide hL
      have HBV := hide hB
      clear hI hQe hL hB
      by_cases hlt : i < len2
      · obtain ⟨ba, oa, rfl, hbl, hc9⟩ := (HSC.out.below HBV.out).2 (by omega)
        obtain ⟨x0, x1, v, a6, l6, c6, bx0, bx1, hvw, hwr, h9⟩ := hc9 i hlt
        have LD := hide (script_load h9)
        have ST := hide (script_store wr x0 x1 v a6 l6 c6)
        have HH := hide (OAt.new wr (sobj x0 x1 v a6 l6 c6))
        have hal := below_alloc wr (sobj x0 x1 v a6 l6 c6)
        have hHn : Hid (gs < wr.heap.size ∧ gw < wr.heap.size ∧ W1.heap.size ≤ wr.heap.size) := hide ⟨H2.out.s.lt, H2.out.t.lt, HBV.out.size⟩
        replace H2 := hide (H2.out.below hal)
        replace HBV := hide (HBV.out.trans (hal.mono HBV.out.size))
        have HWR := hide (hwr.below hal)
        have HVW := hide hvw
        have hli : (i : Int) < (len2 : Int) := by omega
        clear hc9 h9 hal hwr hvw
        go_upto_region 13 with (first
          | (refine wpList_load_at 72 (.tmp 82) rfl rfl (.pointer (some ⟨ba, oa + i * 9, none⟩)) rfl (.agg _) LD.out ?_)
          | (refine wpList_store_at 72 (.tmp 13) (.tmp 83) rfl rfl (.pointer (some ⟨wr.heap.size, 0, none⟩)) (.agg _) rfl rfl _ ST.out ?_))
        clear LD ST
        go_frame
        generalize wr.alloc (sobj x0 x1 v a6 l6 c6) = wa at HH H2 HBV HWR ⊢
        generalize wr.heap.size = h at HH hHn ⊢
        have q0 := HH.out.cell 0
        have q1 := HH.out.cell 1
        simp only [List.getElem?_toArray, List.getElem?_cons_zero, List.getElem?_cons_succ] at q0 q1
        obtain ⟨ob, hob⟩ : ∃ ob : Bool, Hid ((x0 % 3 == 0) = ob) := ⟨_, rfl⟩
        have hob' := hob.out
        go_upto_if 87 with fail
        go_cut [10, 14, 15, 16, 17, 18, 19] from 88 to 183 (fun x e1 e2 e3 e4 e5 e6 wx => ∃ t' : Int, x = .int .i64 t' ∧ 0 ≤ t' ∧ t' ≤ 255 * ((i : Int) + 1) ∧ Hid (∃ Q' : LS, Q'.e = t' / S ∧ L3 W1.heap.size n gs gw Q' Q' wx ∧ Below W1.heap.size W1 wx))
        case first =>
          clear hob
          cases ob
          · clear q1
            have hbd := HVW.out
            unfold Vt.Wf IsI64 IsU64 at hbd
            obtain ⟨k1, k2, k3, k4, k5, k6, _⟩ := hbd
            have hq2 : 0 ≤ t / S ∧ t / S ≤ t := ⟨Int.ediv_nonneg ht0 (by omega), Int.ediv_le_self _ ht0⟩
            rw [← HQ.out] at hq2
            have LVo := hide (act_vote HH.out)
            have HMK := hide (make5_new v.who ao n d S B v.slot v.head v.sE v.sR v.tE v.tR a6 l6 c6 wa HWR.out (by omega) hSb k1 k2 k3 k4 k6)
            have hHB := HX.out.below HBV.out
            have y0 := hHB.cell 0
            have y1 := hHB.cell 1
            have y2 := hHB.cell 2
            simp only [List.getElem?_toArray, List.getElem?_cons_zero, List.getElem?_cons_succ] at y0 y1 y2
            clear hHB k1 k2 k3 k4 k5 k6
            go_wp2_with (refine wpList_load_at 70 (.tmp 122) rfl rfl _ rfl _ LVo.out ?_)
            refine HMK.out.mono ?_
            rintro e w5 ⟨av, dv, rfl, rV, hb, nV⟩
            obtain ⟨vs, hvs⟩ : ∃ x, Hid (v.slot % 200 = x ∧ 0 ≤ x ∧ x < 200) := ⟨_, hide ⟨rfl, by omega, by omega⟩⟩
            rw [hvs.out.1]
            obtain ⟨te, hte⟩ : ∃ x, Hid (epo vs S = x ∧ 0 ≤ x ∧ x ≤ 200) := ⟨_, hide ⟨rfl, by rw [epo_ofN vs S hvs.out.2.1 hSb.1]; exact Int.ediv_nonneg hvs.out.2.1 (by omega), by rw [epo_ofN vs S hvs.out.2.1 hSb.1]; exact Int.le_trans (Int.ediv_le_self _ hvs.out.2.1) (by have := hvs.out.2.2; omega)⟩⟩
            rw [hte.out.1]
            obtain ⟨L, hL⟩ : ∃ x, Hid ((mvW n v.who).length = x) := ⟨_, rfl⟩
            rw [hL.out] at rV ⊢
            have hL1 : 0 < L := by rw [← hL.out]; exact (mvW_len n v.who (by omega)).1
            generalize v.head % 8 = vh
            generalize v.sE % (te + 1) = se
            generalize v.sR % 8 = sr
            generalize v.tR % 8 = tr
            generalize mvW n v.who = wl at rV
            obtain ⟨w6, hrun, ho6, ha6⟩ := store_obj (P := Try.prog) (ty := 70) (n := 7) (cs := (vcells vs vh se sr te tr av L dv).toList) infoVO rfl rfl (by simp [Value.oneCell']) (OAt.new w5 (vobj 0 0 0 0 0 0 none 0 0)).at_
            have hb56 : Below w5.heap.size w5 w6 := (below_alloc w5 _).trans (ha6.old w5.heap.size (by simp) (Nat.le_refl _))
            have hb06 := hb.trans (hb56.mono hb.size)
            have hsz5 := hb.size
            have HLV : Hid (LV W1 n gs gw Q Q b1 d1 b2 d2 b3 d3 b4 d4 w5.heap.size av L dv wl vs vh se sr te tr w6) := hide ⟨H2.out.below hb06, OAt.of ho6, rV.below hb56, HBV.out.trans (hb06.mono HBV.out.size), by have := HBV.out.size; omega, by have := H2.out.s.lt; omega, by have := H2.out.t.lt; omega, fun g off e => by have := H2.out.s1.far hn0.1 g off e; omega, fun g off e => by have := H2.out.s2.far hn0.1 g off e; omega, fun g off e => by have := H2.out.t1.far hn0.1 g off e; omega, fun g off e => by have := H2.out.t2.far hn0.1 g off e; omega, fun g off e => by
              obtain ⟨b', off', e', hlt, _⟩ := rV.cell 0 hL1
              rw [e] at e'
              cases e'
              omega⟩
            have HH6 := hide (HH.out.below hb06)
            have hrun' := hide hrun
            have hhv : Hid (h ≠ w5.heap.size) := hide (by have := HH.out.lt; omega)
            clear HMK LVo rV hb nV hrun ho6 ha6 hb56 hb06 hsz5 HH HWR H2 HBV y0 y1 y2 q0
            go_upto_region 21 with (refine wpList_store_at 70 (.tmp 15) (.tmp 124) rfl rfl _ _ rfl rfl w6 hrun'.out ?_)
            clear hrun'
            generalize w5.heap.size = hv at HLV hhv ⊢
            have q0 := HH6.out.cell 0
            simp only [List.getElem?_toArray, List.getElem?_cons_zero] at q0
            obtain ⟨o1, ho1⟩ : ∃ o1 : Bool, Hid ((x0 % 3 == 1) = o1) := ⟨_, rfl⟩
            have ho1' := ho1.out
            go_upto_if 128 with fail
            go_cut [15] from 129 to 162 (fun x wx => x = .pointer (some ⟨hv, 0, none⟩) ∧ ∃ vs vh se sr te tr, Hid (LV W1 n gs gw Q Q b1 d1 b2 d2 b3 d3 b4 d4 hv av L dv wl vs vh se sr te tr wx ∧ I64s vs ∧ I64s te))
            case first =>
              clear ho1
              cases o1
              · clear q0
                go_wp2
                go_meet
                exact ⟨rfl, vs, vh, se, sr, te, tr, hide ⟨HLV.out, by have := hvs.out; unfold I64s; omega, by have := hte.out; unfold I64s; omega⟩⟩
              · obtain ⟨qe, hqe⟩ : ∃ x, Hid (Q.e = x) := ⟨_, rfl⟩
                rw [hqe.out] at hq2
                obtain ⟨y, hy⟩ : ∃ y, x0 / 64 % 2 = y := ⟨_, rfl⟩
                have hyb : 0 ≤ y ∧ y ≤ 1 := by omega
                have hhW : Hid (W1.heap.size ≤ hv ∧ gs ≠ hv ∧ gw ≠ hv) := hide ⟨HLV.out.hW, HLV.out.ns, HLV.out.nw⟩
                have hqt : t ≤ 9000000000000000 := by omega
                go_upto_region 22 with fail
                go_cut [15] from 129 to 141 (fun x wx => x = .pointer (some ⟨hv, 0, none⟩) ∧ ∃ te tr, Hid (LV W1 n gs gw Q Q b1 d1 b2 d2 b3 d3 b4 d4 hv av L dv wl vs vh se sr te tr wx ∧ 0 ≤ te ∧ te ≤ qe))
                case first =>
                  have hHB := HX.out.below HLV.out.b
                  have y0 := hHB.cell 0
                  have y1 := hHB.cell 1
                  have y2 := hHB.cell 2
                  simp only [List.getElem?_toArray, List.getElem?_cons_zero, List.getElem?_cons_succ] at y0 y1 y2
                  have g10 := HLV.out.two.t.lc.1
                  rw [hqe.out] at g10
                  clear hHB
                  rcases Int.lt_trichotomy (qe - y) 0 with hm | hm | hm
                  · have HPT := hide (point_law 47 cap f ao n d S B (0) w6 enters_law (HCH.out.below HLV.out.b) (by unfold I64s; omega) hSi)
                    obtain ⟨py, hpy⟩ : ∃ x, Hid (f (stI (0) S) = x) := ⟨_, rfl⟩
                    rw [hpy.out] at HPT
                    go_wp2_with fail
                    refine HPT.out.mono ?_
                    rintro e w7 ⟨rfl, hb⟩
                    have HLb := hide (HLV.out.below hb)
                    have c0 : ∀ i, w7.frozen? ⟨hv, i, none⟩ = false := HLb.out.v.soft
                    have e4 := HLb.out.v.cell 4
                    have e5 := HLb.out.v.cell 5
                    simp only [List.getElem?_toArray, List.getElem?_cons_zero, List.getElem?_cons_succ] at e4 e5
                    clear hb HPT
                    go_wp2
                    go_meet
                    exact ⟨rfl, _, _, hide ⟨HLb.out.set45 _ _, by omega, by omega⟩⟩
                  · have hm2 : ¬ (0 < qe - y) := by omega
                    have HPT := hide (point_law 47 cap f ao n d S B (0) w6 enters_law (HCH.out.below HLV.out.b) (by unfold I64s; omega) hSi)
                    obtain ⟨py, hpy⟩ : ∃ x, Hid (f (stI (0) S) = x) := ⟨_, rfl⟩
                    rw [hpy.out] at HPT
                    go_wp2_with fail
                    refine HPT.out.mono ?_
                    rintro e w7 ⟨rfl, hb⟩
                    have HLb := hide (HLV.out.below hb)
                    have c0 : ∀ i, w7.frozen? ⟨hv, i, none⟩ = false := HLb.out.v.soft
                    have e4 := HLb.out.v.cell 4
                    have e5 := HLb.out.v.cell 5
                    simp only [List.getElem?_toArray, List.getElem?_cons_zero, List.getElem?_cons_succ] at e4 e5
                    clear hb HPT
                    go_wp2
                    go_meet
                    exact ⟨rfl, _, _, hide ⟨HLb.out.set45 _ _, by omega, by omega⟩⟩
                  · have HPT := hide (point_law 47 cap f ao n d S B (qe - y) w6 enters_law (HCH.out.below HLV.out.b) (by unfold I64s; omega) hSi)
                    obtain ⟨py, hpy⟩ : ∃ x, Hid (f (stI (qe - y) S) = x) := ⟨_, rfl⟩
                    rw [hpy.out] at HPT
                    go_wp2_with fail
                    refine HPT.out.mono ?_
                    rintro e w7 ⟨rfl, hb⟩
                    have HLb := hide (HLV.out.below hb)
                    have c0 : ∀ i, w7.frozen? ⟨hv, i, none⟩ = false := HLb.out.v.soft
                    have e4 := HLb.out.v.cell 4
                    have e5 := HLb.out.v.cell 5
                    simp only [List.getElem?_toArray, List.getElem?_cons_zero, List.getElem?_cons_succ] at e4 e5
                    clear hb HPT
                    go_wp2
                    go_meet
                    exact ⟨rfl, _, _, hide ⟨HLb.out.set45 _ _, by omega, by omega⟩⟩
                case rest =>
                obtain ⟨rfl, te', tr', hcc⟩ := hcut
                have HL1 := hide hcc.out.1
                have hte1 := hcc.out.2
                clear hcc HLV q0 HH6 hte
                obtain ⟨V, rfl⟩ : ∃ x, x = wc := ⟨_, rfl⟩
                have hHB := HX.out.below HL1.out.b
                have y1 := hHB.cell 1
                have c0 : ∀ i, V.frozen? ⟨hv, i, none⟩ = false := HL1.out.v.soft
                have e0 := HL1.out.v.cell 0
                have e4 := HL1.out.v.cell 4
                simp only [List.getElem?_toArray, List.getElem?_cons_zero, List.getElem?_cons_succ] at y1 e0 e4
                have HST := hide (start_any te' S V (by omega) (by omega))
                obtain ⟨vs', hvs'⟩ : ∃ x, Hid (wrap64 (lo0 te' * lo1 S) = x ∧ I64s x) := ⟨_, hide ⟨rfl, by unfold I64s wrap64; omega⟩⟩
                rw [hvs'.out.1] at HST
                clear hHB
                go_upto_region 24 with (go_at_call 31; refine HST.out.mono ?_; rintro e w' ⟨rfl, hw⟩; obtain rfl : _ = w' := hw.symm)
                have HL2 := hide (HL1.out.set0 vs')
                clear HL1 HST y1 c0 e0 e4
                generalize V.setCell ⟨hv, 0, none⟩ (.int .i64 vs') = V2 at HL2 ⊢
                have c0 : ∀ i, V2.frozen? ⟨hv, i, none⟩ = false := HL2.out.v.soft
                have e2 := HL2.out.v.cell 2
                have e3 := HL2.out.v.cell 3
                have g6 := HL2.out.two.t.cell 6
                have g7 := HL2.out.two.t.cell 7
                simp only [List.getElem?_toArray, List.getElem?_cons_zero, List.getElem?_cons_succ] at e2 e3 g6 g7
                go_upto_region 25 with fail
                have HL3 := hide (HL2.out.set23 Q.j.ce Q.j.cr)
                clear HL2 c0 e2 e3 g6 g7
                generalize (V2.setCell ⟨hv, 2, none⟩ (.int .i64 Q.j.ce)).setCell ⟨hv, 3, none⟩ (.int .u64 Q.j.cr) = V3 at HL3 ⊢
                have c0 : ∀ i, V3.frozen? ⟨hv, i, none⟩ = false := HL3.out.v.soft
                have e2 := HL3.out.v.cell 2
                have e3 := HL3.out.v.cell 3
                have e4 := HL3.out.v.cell 4
                have g4 := HL3.out.two.t.cell 4
                have g5 := HL3.out.two.t.cell 5
                simp only [List.getElem?_toArray, List.getElem?_cons_zero, List.getElem?_cons_succ] at e2 e3 e4 g4 g5
                have g10 := HL3.out.two.t.lc.1
                rw [hqe.out] at g10
                have hti : I64s te' := by unfold I64s; omega
                by_cases heq : te' = qe
                · have hb1 : (te' == qe) = true := by simpa using heq
                  go_wp2
                  go_meet
                  exact ⟨rfl, vs', vh, Q.j.ce, Q.j.cr, te', tr', hide ⟨HL3.out, hvs'.out.2, hti⟩⟩
                · have hb1 : (te' == qe) = false := by simpa using heq
                  go_wp2
                  go_meet
                  exact ⟨rfl, vs', vh, Q.j.pe, Q.j.pr, te', tr', hide ⟨HL3.out.set23 _ _, hvs'.out.2, hti⟩⟩
            case rest =>
            obtain ⟨rfl, vs', vh', se', sr', te', tr', hcc⟩ := hcut
            have HLV' := hide hcc.out.1
            have hvi := hcc.out.2.1
            have hti := hcc.out.2.2
            clear hcc HLV hvs hte q0 HH6 ho1 ho1' hhv
            obtain ⟨V, rfl⟩ : ∃ x, x = wc := ⟨_, rfl⟩
            have hQi : I64s Q.e := by unfold I64s; omega
            obtain ⟨C, hC⟩ : ∃ C, Hid (cntS n S f Q ⟨vs', vh', se', sr', te', tr', wl⟩ = C) := ⟨_, rfl⟩
            obtain ⟨CB, hCB⟩ : ∃ CB, Hid (cntB n S f Q ⟨vs', vh', se', sr', te', tr', wl⟩ = CB) := ⟨_, rfl⟩
            have hCe : Hid (C.e = t / S) := hide (by rw [← hC.out, cntS_ep]; exact HQ.out)
            have hHB := HX.out.below HLV'.out.b
            have y0 := hHB.cell 0
            have y1 := hHB.cell 1
            have y2 := hHB.cell 2
            simp only [List.getElem?_toArray, List.getElem?_cons_zero, List.getElem?_cons_succ] at y0 y1 y2
            have LDs := hide HLV'.out.two.loadS
            have LDv := hide (load_obj Try.underlying70 infoVO rfl HLV'.out.v.at_)
            have HCT := hide (cnt_led Q wl 47 cap f ao n d S B b1 d1 b2 d2 vs' vh' se' sr' te' tr' av L dv V HLV'.out.two.s1 HLV'.out.two.s2 HLV'.out.r hn0 enters_law (HCH.out.below HLV'.out.b) hQi hSi hvi hti)
            rw [hC.out, hCB.out] at HCT
            clear hHB
            go_wp2_with (first
              | (refine wpList_load_at 66 (.tmp 9) rfl rfl _ rfl _ LDs.out ?_)
              | (refine wpList_load_at 70 (.tmp 15) rfl rfl _ rfl _ LDv.out ?_))
            refine HCT.out.mono ?_
            rintro e w7 ⟨r1, f1, r2, f2, rfl, p1, p2, nn1, nn2, hb⟩
            obtain ⟨w8, hrun, ho8, ha8⟩ := store_obj (P := Try.prog) (ty := 66) (n := 13) (cs := (lcells C.j C.e r1 n f1 r2 n f2).toList) infoLS rfl rfl (lcells_one _ _ _ _ _ _ _ _) (OAt.new w7 (lobj jz 0 none 0 0 none 0 0)).at_
            have hb78 : Below w7.heap.size w7 w8 := (below_alloc w7 _).trans (ha8.old w7.heap.size (by simp) (Nat.le_refl _))
            have hbb := hb.trans (hb78.mono hb.size)
            have O1 := hide (New.off nn1 HLV'.out.two.s.lt HLV'.out.two.t.lt)
            have O2 := hide (New.off nn2 HLV'.out.two.s.lt HLV'.out.two.t.lt)
            clear nn1 nn2
            have HP1 := hide (p1.below hb78)
            have HP2 := hide (p2.below hb78)
            have hltA : Hid (gs < w7.heap.size ∧ gw < w7.heap.size) := hide ⟨by have := HLV'.out.two.s.lt; have := hb.size; omega, by have := HLV'.out.two.t.lt; have := hb.size; omega⟩
            have HT1 : Hid (OAt w8 w7.heap.size (lobj C.j C.e r1 n f1 r2 n f2)) := hide (OAt.of ho8)
            replace HLV' := hide (HLV'.out.below hbb)
            have hrun' := hide hrun
            clear LDs LDv HCT p1 p2 hb hb78 hbb ho8 ha8 hrun y0 y1 y2
            go_upto_region 28 with (refine wpList_store_at 66 (.tmp 16) (.tmp 169) rfl rfl _ _ rfl rfl w8 hrun'.out ?_)
            clear hrun'
            obtain ⟨gt, hgt⟩ : ∃ x, Hid (w7.heap.size = x) := ⟨_, rfl⟩
            rw [hgt.out] at HT1 hltA ⊢
            have ngt := hide hltA.out
            clear hltA hgt
            have hHB := HX.out.below HLV'.out.b
            have y0 := hHB.cell 0
            have y1 := hHB.cell 1
            have y2 := hHB.cell 2
            simp only [List.getElem?_toArray, List.getElem?_cons_zero, List.getElem?_cons_succ] at y0 y1 y2
            have LDs := hide HLV'.out.two.loadT
            have LDv := hide (load_obj Try.underlying70 infoVO rfl HLV'.out.v.at_)
            have HCT := hide (count_law Q wl 47 cap f ao n d S B b3 d3 b4 d4 vs' vh' se' sr' te' tr' av L dv w8 HLV'.out.two.t1 HLV'.out.two.t2 HLV'.out.r hn0 enters_law (HCH.out.below HLV'.out.b) hQi hSi hvi hti)
            rw [hC.out, hCB.out] at HCT
            clear hHB
            go_wp2_with (first
              | (refine wpList_load_at 66 (.tmp 11) rfl rfl _ rfl _ LDs.out ?_)
              | (refine wpList_load_at 70 (.tmp 15) rfl rfl _ rfl _ LDv.out ?_))
            refine HCT.out.mono ?_
            rintro e w9 ⟨r3, f3, r4, f4, rfl, p1, p2, nn, hb⟩
            obtain ⟨w10, hrun, ho8, ha8⟩ := store_obj (P := Try.prog) (ty := 66) (n := 13) (cs := (lcells C.j C.e r3 n f3 r4 n f4).toList) infoLS rfl rfl (lcells_one _ _ _ _ _ _ _ _) (OAt.new w9 (lobj jz 0 none 0 0 none 0 0)).at_
            have hb78 : Below w9.heap.size w9 w10 := (below_alloc w9 _).trans (ha8.old w9.heap.size (by simp) (Nat.le_refl _))
            have hbb := hb.trans (hb78.mono hb.size)
            have O34 : Hid (Off gs gw r3 ∧ Off gs gw r4) := by
              rcases nn with ⟨e3, e4⟩ | ⟨nn1, nn2⟩
              · rw [e3, e4]; exact hide ⟨HLV'.out.two.o3, HLV'.out.two.o4⟩
              · exact hide ⟨New.off nn1 HLV'.out.two.s.lt HLV'.out.two.t.lt, New.off nn2 HLV'.out.two.s.lt HLV'.out.two.t.lt⟩
            clear nn
            have HP3 := hide (p1.below hb78)
            have HP4 := hide (p2.below hb78)
            have hltA : Hid (gs < w9.heap.size ∧ gw < w9.heap.size) := hide ⟨by have := HLV'.out.two.s.lt; have := hb.size; omega, by have := HLV'.out.two.t.lt; have := hb.size; omega⟩
            have HT2 : Hid (OAt w10 w9.heap.size (lobj C.j C.e r3 n f3 r4 n f4)) := hide (OAt.of ho8)
            replace HT1 := hide (HT1.out.below hbb)
            replace HP1 := hide (HP1.out.below hbb)
            replace HP2 := hide (HP2.out.below hbb)
            replace HLV' := hide (HLV'.out.below hbb)
            have hrun' := hide hrun
            clear LDs LDv HCT p1 p2 hb hb78 hbb ho8 ha8 hrun y0 y1 y2
            go_upto_region 29 with (refine wpList_store_at 66 (.tmp 18) (.tmp 177) rfl rfl _ _ rfl rfl w10 hrun'.out ?_)
            clear hrun'
            obtain ⟨gu, hgu⟩ : ∃ x, Hid (w9.heap.size = x) := ⟨_, rfl⟩
            rw [hgu.out] at HT2 hltA ⊢
            have ngu := hide hltA.out
            clear hltA hgu
            have H2 := hide HLV'.out.two
            have HBV := hide HLV'.out.b
            clear HLV'
            go_upto_region 31 with fail
            have hbD : Hid (Below w10.heap.size w10 w10.drew) := hide (Below.refl _ _).drew
            refine wp_region_noPanic ?_
            refine wp_region_held_drew (S := fun w' => OAt w' gt (lobj C.j C.e r1 n f1 r2 n f2) ∧ OAt w' gu (lobj C.j C.e r3 n f3 r4 n f4)) (by kernel_rfl) ⟨HT1.out.below hbD.out, HT2.out.below hbD.out⟩ (fun hHeld => ?_)
            replace H2 := hide (H2.out.below hbD.out)
            replace HT1 := hide (HT1.out.below hbD.out)
            replace HT2 := hide (HT2.out.below hbD.out)
            replace HP1 := hide (HP1.out.below hbD.out)
            replace HP2 := hide (HP2.out.below hbD.out)
            replace HP3 := hide (HP3.out.below hbD.out)
            replace HP4 := hide (HP4.out.below hbD.out)
            replace HBV := hide (HBV.out.trans (hbD.out.mono HBV.out.size))
            generalize w10.drew = w0 at hHeld H2 HT1 HT2 HP1 HP2 HP3 HP4 HBV ⊢
            clear hbD
            refine take_set (i := 0) (v := .agg (lcells C.j C.e r1 n f1 r2 n f2)) rfl rfl (by kernel_rfl) (by kernel_rfl) (by kernel_rfl) (fun _ _ _ h => h) (Or.inl ⟨by kernel_rfl, fun w' hSw => ?_⟩) hHeld ?_
            · exact run_load_whole 66 (.tmp 16) rfl _ _ rfl (load_obj Try.underlying66 infoLS rfl hSw.1.at_)
            simp only [List.set_cons_succ, List.set_cons_zero]
            refine take_set (i := 1) (v := .agg (lcells C.j C.e r3 n f3 r4 n f4)) rfl rfl (by kernel_rfl) (by kernel_rfl) (by kernel_rfl) (fun _ _ _ h => h) (Or.inl ⟨by kernel_rfl, fun w' hSw => ?_⟩) hHeld ?_
            · exact run_load_whole 66 (.tmp 18) rfl _ _ rfl (load_obj Try.underlying66 infoLS rfl hSw.2.at_)
            simp only [List.set_cons_succ, List.set_cons_zero]
            refine wpAnyH_ready (rs := [2]) (by kernel_rfl) (by simp) ?_
            refine AllReadyH.cons (o := _) rfl (fun K hK => ?_) AllReadyH.nil
            obtain ⟨wa1, hrun, h2a, haA⟩ := H2.out.putS HP1.out HP2.out O1.out O2.out
            have HS1 : Hid (OAt wa1 gt (lobj C.j C.e r1 n f1 r2 n f2) ∧ OAt wa1 gu (lobj C.j C.e r3 n f3 r4 n f4)) := hide ⟨HT1.out.apart haA (by have := ngt.out; omega), HT2.out.apart haA (by have := ngu.out; omega)⟩
            have HBa := hide (HBV.out.trans (haA.old _ HBV.out.size H2.out.bs))
            have HP3' := hide (HP3.out.aside haA (fun g off e => (O34.out.1 g off e).1))
            have HP4' := hide (HP4.out.aside haA (fun g off e => (O34.out.2 g off e).1))
            have H2a := hide h2a
            refine step_store_at 66 (.tmp 9) (.tmp 182) rfl rfl _ _ rfl rfl wa1 hrun ?_
            refine hK.out _ _ (HS1.out) (fun hHeld => ?_)
            clear hK K
            refine wpAnyH_ready (rs := [3]) (by kernel_rfl) (by simp) ?_
            refine AllReadyH.cons (o := _) rfl (fun K hK => ?_) AllReadyH.nil
            obtain ⟨wa2, hrun2, h2b, haB⟩ := H2a.out.putT HP3'.out HP4'.out O34.out.1 O34.out.2
            have HS2 : Hid (OAt wa2 gt (lobj C.j C.e r1 n f1 r2 n f2) ∧ OAt wa2 gu (lobj C.j C.e r3 n f3 r4 n f4)) := hide ⟨HS1.out.1.apart haB (by have := ngt.out; omega), HS1.out.2.apart haB (by have := ngu.out; omega)⟩
            have HBb := hide (HBa.out.trans (haB.old _ HBa.out.size H2a.out.bw))
            have H2b := hide h2b
            refine step_store_at 66 (.tmp 11) (.tmp 183) rfl rfl _ _ rfl rfl wa2 hrun2 ?_
            refine hK.out _ _ (HS2.out) (fun hHeld => ?_)
            clear hK K
            refine wpAnyH_done (by kernel_rfl) ?_ _
            refine NoPanic.normal ?_
            go_wp2
            go_meet
            exact ⟨t, rfl, ht0, by omega, hide ⟨C, hCe.out, ⟨_, _, _, _, _, _, _, _, H2b.out⟩, HBb.out⟩⟩
          · clear q0 HH HWR HVW hHn
            have htb : 0 ≤ t + x1 ∧ t + x1 ≤ 36028797018963968 := by omega
            have hby := adv_by bs S f Q t x1 HQ.out ⟨ht0, by omega⟩ bx1 (by omega)
            obtain ⟨ha1, ha2, ha3⟩ := hby
            have hq2 : 0 ≤ t / S ∧ t / S ≤ t := ⟨Int.ediv_nonneg ht0 (by omega), Int.ediv_le_self _ ht0⟩
            rw [← HQ.out] at hq2
            have hQi : I64s Q.e := by unfold I64s; omega
            obtain ⟨A, hA⟩ : ∃ A, Hid (advS bs S f Q (t + x1) = A) := ⟨_, rfl⟩
            rw [hA.out] at ha1 ha2
            have hHB := HX.out.below HBV.out
            have c0 := hHB.cell 0
            have c1 := hHB.cell 1
            have c2 := hHB.cell 2
            simp only [List.getElem?_toArray, List.getElem?_cons_zero, List.getElem?_cons_succ] at c0 c1 c2
            have HAD := hide (adv_led bs Q 47 cap f ao n d S B b1 d1 b2 d2 (t + x1) wa (HR.out.below HBV.out) hu.out H2.out.s1 H2.out.s2 hn0 enters_law (HCH.out.below HBV.out) hQi hSi (by unfold I64s; omega))
            rw [hA.out] at HAD
            have LDs := hide H2.out.loadS
            obtain ⟨qe, hqe⟩ : ∃ qe, Hid (Q.e = qe) := ⟨_, rfl⟩
            rw [hqe.out] at ha1 ha3 hq2
            obtain ⟨E, hE⟩ : ∃ E, Hid ((t + x1) / S = E) := ⟨_, rfl⟩
            rw [hE.out] at ha1 ha2 ha3
            have hEb : E ≤ t + x1 := by rw [← hE.out]; exact Int.ediv_le_self _ htb.1
            obtain ⟨m0, hm0⟩ : ∃ m0 : Nat, E = qe + (m0 : Int) := ⟨(E - qe).toNat, by omega⟩
            have HA1 : Hid (A = advK bs S f Q qe m0) := hide (by rw [ha1]; congr 1; omega)
            have HA2 := hide ha2
            clear ha1 ha2 hHB
            go_upto_region 15 with fail
            clear q1
            go_wp2_with (refine wpList_load_at 66 (.tmp 9) rfl rfl _ rfl _ LDs.out ?_)
            refine HAD.out.mono ?_
            rintro e w5 ⟨r1, f1, r2, f2, rfl, p1, p2, nn1, nn2, hb⟩
            obtain ⟨w6, hrun, h26, ha6⟩ := (H2.out.below hb).putS p1 p2 (New.off nn1 H2.out.s.lt H2.out.t.lt) (New.off nn2 H2.out.s.lt H2.out.t.lt)
            have hB5 := HBV.out.trans (hb.mono HBV.out.size)
            have HB6 := hide (hB5.trans (ha6.old _ hB5.size H2.out.bs))
            have H26 := hide h26
            have hrun' := hide hrun
            clear LDs HAD p1 p2 nn1 nn2 hb h26 ha6 hrun hB5 H2 HBV c0 c1 c2
            go_upto_region 16 with (refine wpList_store_at 66 (.tmp 9) (.tmp 97) rfl rfl _ _ rfl rfl w6 hrun'.out ?_)
            clear hrun'
            have g10 := H26.out.t.lc.1
            rw [hqe.out] at g10
            go_wp2_with fail
            clear g10
            have htd : (t + x1).tdiv S = E := by rw [Int.tdiv_eq_ediv_of_nonneg htb.1]; exact hE.out
            have hS0 : ¬ S = 0 := by omega
            go_loopw [14] (fun v wx => ∃ k : Nat, v = .int .i64 (qe + (k : Int)) ∧ k ≤ m0 ∧ Hid (∃ c3 f3 c4 f4, L2 W1.heap.size n gs gw A (advK bs S f Q qe k) r1 f1 r2 f2 c3 f3 c4 f4 wx ∧ Below W1.heap.size W1 wx)) (fun v _ => m0 - (intOf v - qe).toNat)
            case atStart => exact ⟨0, by simp, Nat.zero_le _, hide ⟨_, _, _, _, H26.out, HB6.out⟩⟩
            case round =>
              clear H26 HB6
              obtain ⟨k, rfl, hkm, hI⟩ := hrel
              obtain ⟨c3, f3, c4, f4, h2, hB⟩ := hI.out
              have H2 := hide h2
              have HBV := hide hB
              clear hI h2 hB
              have hHB := HX.out.below HBV.out
              have y0 := hHB.cell 1
              simp only [List.getElem?_toArray, List.getElem?_cons_zero, List.getElem?_cons_succ] at y0
              by_cases hkl : k < m0
              · have hlt2 : qe + (k : Int) < E := by omega
                have hwk : IntKind.i64.wrap (qe + (k : Int) + 1) = qe + (k : Int) + 1 := by rw [IntKind.wrap_i64]; omega
                have hue := advK_e bs S f Q qe k
                have hue2 : Hid ((advK bs S f Q qe k).e = qe + (k : Int)) := by
                  show _ = _
                  rw [hue]
                  by_cases h0 : k = 0
                  · rw [if_pos h0, hqe.out, h0]; simp
                  · rw [if_neg h0]
                have hnext : Hid (advK bs S f Q qe (k + 1) = ⟨pullJ bs S f (advK bs S f Q qe k), qe + (k : Int) + 1, (advK bs S f Q qe k).nw, List.replicate n false⟩) := hide (by rw [advK_succ, ← hn]; rfl)
                obtain ⟨U, hU⟩ : ∃ U, Hid (advK bs S f Q qe k = U) := ⟨_, rfl⟩
                rw [hU.out] at H2 hue2 hnext
                obtain ⟨V, rfl⟩ : ∃ x, x = wr := ⟨_, rfl⟩
                have HRl := hide (HR.out.below HBV.out)
                have HCl := hide (HCH.out.below HBV.out)
                have hxs : Hid (∀ w', Below V.heap.size V w' → w'.cell? ⟨hc, 0, none⟩ = some (.slice ao n d) ∧ w'.cell? ⟨hc, 1, none⟩ = some (.int .i64 S) ∧ w'.cell? ⟨hc, 2, none⟩ = some (.int .i64 B)) := hide fun w' h => by
                  have X := (HX.out.below HBV.out).below h
                  exact ⟨X.cell 0, X.cell 1, X.cell 2⟩
                have hUi : I64s U.e := by rw [hue2.out]; unfold I64s; omega
                have hUl := hide hue2.out
                clear hue hHB
                go_upto_region 19 with fail
                clear y0
                obtain ⟨PJ, hPJ⟩ : ∃ PJ, Hid (pullJ bs S f U = PJ) := ⟨_, rfl⟩
                rw [hPJ.out] at hnext
                have hmk := run_make_row (P := Try.prog) 26 4 i0 (.bool false) Try.underlying26 hi hz0 hz1 rfl .i64 .i64 n (by rw [hz2]; omega) (by omega)
                have hnm : Hid (n ≤ maxLen) := hide (by unfold maxLen; omega)
                have H2s : Hid (gs < V.heap.size ∧ gw < V.heap.size ∧ W1.heap.size ≤ gw) := hide ⟨H2.out.s.lt, H2.out.t.lt, H2.out.bw⟩
                have hls : Hid (∀ w', Below V.heap.size V w' → (Instr.loadAt 66 (.pointer (some ⟨gw, 0, none⟩))).run Try.prog w' = .ok (.agg (lcells U.j (qe + (k : Int)) c3 n f3 c4 n f4)) w') := hide fun w' h => by
                  have := (H2.out.below h).loadT
                  rw [hue2.out] at this
                  exact this
                have hlc : Hid (∀ w', Below V.heap.size V w' → w'.cell? ⟨gw, 12, none⟩ = some (.slice c4 n f4)) := hide fun w' h => (H2.out.below h).t.lc.2.2
                have HB : Hid (Below V.heap.size V V.drew) := hide (Below.refl _ _).drew
                refine startZ (fun w' => Below V.heap.size V w') 13 (by kernel_rfl) ?_
                have hHeld := HB.out
                replace H2 := hide (H2.out.below HB.out)
                replace HRl := hide (HRl.out.below HB.out)
                replace HCl := hide (HCl.out.below HB.out)
                generalize V.drew = w0 at HB hHeld H2 HRl HCl ⊢
                refine takeZ (i := 0) (v := .agg #[.slice ao n d, .int .i64 S, .int .i64 B]) rfl rfl (by kernel_rfl) (by kernel_rfl) (by kernel_rfl) (by kernel_rfl) (fun _ _ _ h => h) (Or.inl ⟨by kernel_rfl, fun w' hSw => ?_⟩) hHeld ?_
                · have hl := hxs.out w' hSw; go_simp
                simp only [List.set_cons_succ, List.set_cons_zero]
                refine takeZ (i := 1) (v := .agg (lcells U.j (qe + (k : Int)) c3 n f3 c4 n f4)) rfl rfl (by kernel_rfl) (by kernel_rfl) (by kernel_rfl) (by kernel_rfl) (fun _ _ _ h => h) (Or.inl ⟨by kernel_rfl, fun w' hSw => ?_⟩) hHeld ?_
                · exact run_load_whole 66 (.tmp 11) rfl _ _ rfl (hls.out w' hSw)
                simp only [List.set_cons_succ, List.set_cons_zero]
                refine takeZ (i := 2) (v := chv 47 cap) rfl rfl (by kernel_rfl) (by kernel_rfl) (by kernel_rfl) (by kernel_rfl) (fun _ _ _ h => h) (Or.inl ⟨by kernel_rfl, fun w' hSw => ?_⟩) hHeld ?_
                · go_simp
                simp only [List.set_cons_succ, List.set_cons_zero]
                refine takeZ (i := 4) (v := .int .i64 (qe + (k : Int))) rfl rfl (by kernel_rfl) (by kernel_rfl) (by kernel_rfl) (by kernel_rfl) (fun _ _ _ h => h) (Or.inl ⟨by kernel_rfl, fun w' hSw => ?_⟩) hHeld ?_
                · go_simp
                simp only [List.set_cons_succ, List.set_cons_zero]
                refine takeZ (i := 5) (v := .int .i64 (qe + (k : Int) + 1)) rfl rfl (by kernel_rfl) (by kernel_rfl) (by kernel_rfl) (by kernel_rfl) (fun _ _ _ h => h) (Or.inl ⟨by kernel_rfl, fun w' hSw => ?_⟩) hHeld ?_
                · go_simp
                simp only [List.set_cons_succ, List.set_cons_zero]
                refine takeZ (i := 6) (v := .pointer (some ⟨gw, 12, none⟩)) rfl rfl (by kernel_rfl) (by kernel_rfl) (by kernel_rfl) (by kernel_rfl) (fun _ _ _ h => h) (Or.inl ⟨by kernel_rfl, fun w' hSw => ?_⟩) hHeld ?_
                · go_simp
                simp only [List.set_cons_succ, List.set_cons_zero]
                refine takeZ (i := 7) (v := .slice c4 n f4) rfl rfl (by kernel_rfl) (by kernel_rfl) (by kernel_rfl) (by kernel_rfl) (fun _ _ _ h => h) (Or.inl ⟨by kernel_rfl, fun w' hSw => ?_⟩) hHeld ?_
                · have hl := hlc.out w' hSw; go_simp
                simp only [List.set_cons_succ, List.set_cons_zero]
                refine takeZ (i := 8) (v := .pointer (some ⟨hc, 0, none⟩)) rfl rfl (by kernel_rfl) (by kernel_rfl) (by kernel_rfl) (by kernel_rfl) (fun _ _ _ h => h) (Or.inl ⟨by kernel_rfl, fun w' hSw => ?_⟩) hHeld ?_
                · go_simp
                simp only [List.set_cons_succ, List.set_cons_zero]
                refine takeZ (i := 9) (v := .slice ao n d) rfl rfl (by kernel_rfl) (by kernel_rfl) (by kernel_rfl) (by kernel_rfl) (fun _ _ _ h => h) (Or.inl ⟨by kernel_rfl, fun w' hSw => ?_⟩) hHeld ?_
                · have hl := hxs.out w' hSw; go_simp
                simp only [List.set_cons_succ, List.set_cons_zero]
                refine takeZ (i := 10) (v := .int .i64 (n : Int)) rfl rfl (by kernel_rfl) (by kernel_rfl) (by kernel_rfl) (by kernel_rfl) (fun _ _ _ h => h) (Or.inl ⟨by kernel_rfl, fun w' hSw => ?_⟩) hHeld ?_
                · go_simp
                simp only [List.set_cons_succ, List.set_cons_zero]
                refine readyZ (rs := [3, 11]) (by kernel_rfl) (by kernel_rfl) ?_
                refine AllZ.cons (o := _) rfl (fun K hK => ?_) (AllZ.cons (o := _) rfl (fun K hK => ?_) (AllZ.nil))
                · go_simp
                  have hcal := pull_law bs U.bf U.nw 47 cap f ao n d S B U.j U.e c3 f3 c4 f4 w0 HRl.out hu.out H2.out.t1 H2.out.t2 enters_law HCl.out hUi hSi
                  rw [hue2.out] at hcal
                  refine hcal.mono ?_
                  rintro ea wq1 ⟨rfl, hbel⟩
                  clear hcal
                  rw [show (⟨U.j, qe + (k : Int), U.bf, U.nw⟩ : LS) = U from by rw [← hue2.out], hPJ.out]
                  replace H2 := hide (H2.out.below hbel)
                  replace HRl := hide (HRl.out.below hbel)
                  replace HCl := hide (HCl.out.below hbel)
                  replace HB := hide (HB.out.trans (hbel.mono HB.out.size))
                  have z1 : Hid (w0.heap.size ≤ wq1.heap.size) := hide hbel.size
                  clear hbel 
                  refine hK.out _ _ (HB.out) (fun hHeld => ?_)
                  clear hK K
                  have hbel := below_alloc wq1 (.cells (madeCells #[Value.bool false] n) 4)
                  have HM := hide (OAt.new wq1 (.cells (madeCells #[Value.bool false] n) 4))
                  refine readyZ (rs := [11]) (by kernel_rfl) (by kernel_rfl) ?_
                  refine AllZ.cons (o := _) rfl (fun K hK => ?_) AllZ.nil
                  go_simp
                  refine hK.out _ _ (HB.out.trans (hbel.mono HB.out.size)) (fun hHeld => ?_)
                  clear hK K
                  have z2 : Hid ((wq1.alloc (.cells (madeCells #[Value.bool false] n) 4)).heap.size = wq1.heap.size + 1) := hide (by simp)
                  generalize wq1.alloc (.cells (madeCells #[Value.bool false] n) 4) = wq2 at hbel HM hHeld z2 ⊢
                  replace H2 := hide (H2.out.below hbel)
                  replace HRl := hide (HRl.out.below hbel)
                  replace HCl := hide (HCl.out.below hbel)
                  have HMs : Hid (V.heap.size ≤ wq1.heap.size) := hide HB.out.size
                  replace HB := hide (HB.out.trans (hbel.mono HB.out.size))
                  clear hbel
                  obtain ⟨gM, gMe⟩ : ∃ x, Hid (wq1.heap.size = x) := ⟨_, rfl⟩
                  rw [gMe.out] at HM HMs ⊢
                  refine takeZ (i := 12) (v := .agg (lcells PJ (qe + (k : Int) + 1) c4 n f4 (some ⟨gM, 0, none⟩) n n)) rfl rfl (by kernel_rfl) (by kernel_rfl) (by kernel_rfl) (by kernel_rfl) (fun _ _ _ h => h) (Or.inl ⟨by kernel_rfl, fun w' hSw => ?_⟩) hHeld ?_
                  · go_simp
                  simp only [List.set_cons_succ, List.set_cons_zero]
                  refine lastZ (oz := _) (by kernel_rfl) rfl (by kernel_rfl) fun K hK => ?_
                  have hMB := made_row HM.out hnm.out
                  have hoM : Off gs gw (some ⟨gM, 0, none⟩) := fun g off e => by
                    cases e
                    have := H2s.out
                    have := HMs.out
                    have := gMe.out
                    omega
                  obtain ⟨wq3, hrun, h2N, haS⟩ := H2.out.putT (V := ⟨PJ, qe + (k : Int) + 1, U.nw, List.replicate n false⟩) H2.out.t2 hMB H2.out.o4 hoM
                  have HN2 := hide h2N
                  have HZ : Hid (Apart gw V wq3) := hide ((Apart.of HB.out).trans haS)
                  refine step_store_at 66 (.tmp 11) (.tmp 120) rfl rfl _ _ rfl rfl wq3 hrun ?_
                  refine hK.out _ _ ?_
                  clear hK K
                  have HBN := hide (HBV.out.trans (HZ.out.old _ HBV.out.size H2s.out.2.2))
                  rw [← hnext.out] at HN2
                  clear HM HMs HZ HB hxs HBV
                  go_wp2
                  go_roundw
                  case rel => exact ⟨k + 1, by go_num, by omega, hide ⟨_, _, _, _, HN2.out, HBN.out⟩⟩
                  case measure => simp [intOf]; omega
                · have hbel := below_alloc w0 (.cells (madeCells #[Value.bool false] n) 4)
                  have HM := hide (OAt.new w0 (.cells (madeCells #[Value.bool false] n) 4))
                  go_simp
                  refine hK.out _ _ (HB.out.trans (hbel.mono HB.out.size)) (fun hHeld => ?_)
                  clear hK K
                  have z1 : Hid ((w0.alloc (.cells (madeCells #[Value.bool false] n) 4)).heap.size = w0.heap.size + 1) := hide (by simp)
                  generalize w0.alloc (.cells (madeCells #[Value.bool false] n) 4) = wq1 at hbel HM hHeld z1 ⊢
                  replace H2 := hide (H2.out.below hbel)
                  replace HRl := hide (HRl.out.below hbel)
                  replace HCl := hide (HCl.out.below hbel)
                  have HMs : Hid (V.heap.size ≤ w0.heap.size) := hide HB.out.size
                  replace HB := hide (HB.out.trans (hbel.mono HB.out.size))
                  clear hbel
                  obtain ⟨gM, gMe⟩ : ∃ x, Hid (w0.heap.size = x) := ⟨_, rfl⟩
                  rw [gMe.out] at HM HMs ⊢
                  refine readyZ (rs := [3]) (by kernel_rfl) (by kernel_rfl) ?_
                  refine AllZ.cons (o := _) rfl (fun K hK => ?_) AllZ.nil
                  go_simp
                  have hcal := pull_law bs U.bf U.nw 47 cap f ao n d S B U.j U.e c3 f3 c4 f4 wq1 HRl.out hu.out H2.out.t1 H2.out.t2 enters_law HCl.out hUi hSi
                  rw [hue2.out] at hcal
                  refine hcal.mono ?_
                  rintro ea wq2 ⟨rfl, hbel⟩
                  clear hcal
                  rw [show (⟨U.j, qe + (k : Int), U.bf, U.nw⟩ : LS) = U from by rw [← hue2.out], hPJ.out]
                  replace H2 := hide (H2.out.below hbel)
                  replace HRl := hide (HRl.out.below hbel)
                  replace HCl := hide (HCl.out.below hbel)
                  replace HM := hide (HM.out.below hbel)
                  replace HB := hide (HB.out.trans (hbel.mono HB.out.size))
                  have z2 : Hid (wq1.heap.size ≤ wq2.heap.size) := hide hbel.size
                  clear hbel 
                  refine hK.out _ _ (HB.out) (fun hHeld => ?_)
                  clear hK K
                  refine takeZ (i := 12) (v := .agg (lcells PJ (qe + (k : Int) + 1) c4 n f4 (some ⟨gM, 0, none⟩) n n)) rfl rfl (by kernel_rfl) (by kernel_rfl) (by kernel_rfl) (by kernel_rfl) (fun _ _ _ h => h) (Or.inl ⟨by kernel_rfl, fun w' hSw => ?_⟩) hHeld ?_
                  · go_simp
                  simp only [List.set_cons_succ, List.set_cons_zero]
                  refine lastZ (oz := _) (by kernel_rfl) rfl (by kernel_rfl) fun K hK => ?_
                  have hMB := made_row HM.out hnm.out
                  have hoM : Off gs gw (some ⟨gM, 0, none⟩) := fun g off e => by
                    cases e
                    have := H2s.out
                    have := HMs.out
                    have := gMe.out
                    omega
                  obtain ⟨wq3, hrun, h2N, haS⟩ := H2.out.putT (V := ⟨PJ, qe + (k : Int) + 1, U.nw, List.replicate n false⟩) H2.out.t2 hMB H2.out.o4 hoM
                  have HN2 := hide h2N
                  have HZ : Hid (Apart gw V wq3) := hide ((Apart.of HB.out).trans haS)
                  refine step_store_at 66 (.tmp 11) (.tmp 120) rfl rfl _ _ rfl rfl wq3 hrun ?_
                  refine hK.out _ _ ?_
                  clear hK K
                  have HBN := hide (HBV.out.trans (HZ.out.old _ HBV.out.size H2s.out.2.2))
                  rw [← hnext.out] at HN2
                  clear HM HMs HZ HB hxs HBV
                  go_wp2
                  go_roundw
                  case rel => exact ⟨k + 1, by go_num, by omega, hide ⟨_, _, _, _, HN2.out, HBN.out⟩⟩
                  case measure => simp [intOf]; omega
              · have hge : ¬ (qe + (k : Int) < E) := by omega
                obtain rfl : k = m0 := by omega
                rw [← HA1.out] at H2
                have hEt : Hid (A.e = (t + x1) / S) := hide (by rw [HA2.out, hE.out])
                go_wp2
                go_meet
                exact ⟨t + x1, rfl, htb.1, by omega, hide ⟨A, hEt.out, ⟨_, _, _, _, _, _, _, _, H2.out⟩, HBV.out⟩⟩
        case rest =>
          obtain ⟨t', rfl, ht0', ht1', hI⟩ := hcut
          obtain ⟨Q', hQ', ⟨r1, f1, r2, f2, r3, f3, r4, f4, h2⟩, hB⟩ := hI.out
          have HQ' := hide hQ'
          have H2' := hide h2
          have HB' := hide hB
          clear hI hQ' h2 hB HH H2 HBV HWR HVW hHn q0 q1 HQ hob hob'
          obtain ⟨V, rfl⟩ : ∃ x, x = wc := ⟨_, rfl⟩
          have hq2 : 0 ≤ t' / S ∧ t' / S ≤ t' := ⟨Int.ediv_nonneg ht0' (by omega), Int.ediv_le_self _ ht0'⟩
          rw [← HQ'.out] at hq2
          have hQi : I64s Q'.e := by unfold I64s; omega
          obtain ⟨J, hJ⟩ : ∃ J, Hid (pullJ bs S f Q' = J) := ⟨_, rfl⟩
          have HSA : Hid (∀ w', Below V.heap.size V w' → _) := hide fun w' h => same_led Q' r1 n f1 r2 n f2 r3 f3 r4 f4 w' (H2'.out.below h).s1 (H2'.out.below h).s2 (H2'.out.below h).t1 (H2'.out.below h).t2 hn0.1 hn0.1
          have HPL : Hid (∀ w', Below V.heap.size V w' → _) := hide fun w' h => pull_led bs Q'.bf Q'.nw 47 cap f ao n d S B Q'.j Q'.e r1 n f1 r2 n f2 w' ((HR.out.below HB'.out).below h) hu.out (H2'.out.below h).s1 (H2'.out.below h).s2 hn0.2 hn0.2 enters_law ((HCH.out.below HB'.out).below h) hQi hSi
          have HPW : Hid (∀ w', Below V.heap.size V w' → _) := hide fun w' h => pull_law bs Q'.bf Q'.nw 47 cap f ao n d S B Q'.j Q'.e r3 f3 r4 f4 w' ((HR.out.below HB'.out).below h) hu.out (H2'.out.below h).t1 (H2'.out.below h).t2 enters_law ((HCH.out.below HB'.out).below h) hQi hSi
          simp only [show (⟨Q'.j, Q'.e, Q'.bf, Q'.nw⟩ : LS) = Q' from rfl, hJ.out] at HPL HPW
          have hneq : ∀ w, (binOp BinOp.neq 64 (.agg J.cells) (.agg J.cells)).run Try.prog w = .ok (.bool false) w := neq_js J
          have hxs : Hid (∀ w', Below V.heap.size V w' → w'.cell? ⟨hc, 0, none⟩ = some (.slice ao n d) ∧ w'.cell? ⟨hc, 1, none⟩ = some (.int .i64 S) ∧ w'.cell? ⟨hc, 2, none⟩ = some (.int .i64 B)) := hide fun w' h => by
            have X := (HX.out.below HB'.out).below h
            exact ⟨X.cell 0, X.cell 1, X.cell 2⟩
          have hls : Hid (∀ w', Below V.heap.size V w' → (Instr.loadAt 66 (.pointer (some ⟨gs, 0, none⟩))).run Try.prog w' = .ok (.agg (lcells Q'.j Q'.e r1 n f1 r2 n f2)) w') := hide fun w' h => (H2'.out.below h).loadS
          have hlt' : Hid (∀ w', Below V.heap.size V w' → (Instr.loadAt 66 (.pointer (some ⟨gw, 0, none⟩))).run Try.prog w' = .ok (.agg (lcells Q'.j Q'.e r3 n f3 r4 n f4)) w') := hide fun w' h => (H2'.out.below h).loadT
          go_upto_region 32 with fail
          go_cut [198] from 184 to 198 (fun x wx => x = .bool false ∧ Hid (Below V.heap.size V wx))
          case first =>
            refine startG (fun w' => Below V.heap.size V w') 15 (by kernel_rfl) (Below.refl _ _).drew ?_
            refine takeG (i := 0) (v := .agg (lcells Q'.j Q'.e r1 n f1 r2 n f2)) rfl rfl (by kernel_rfl) (by kernel_rfl) (by kernel_rfl) (by kernel_rfl) (fun _ _ _ h => h) (Or.inl ⟨by kernel_rfl, fun w' hSw => doesLoad 66 (.tmp 9) rfl _ _ rfl (hls.out w' hSw) hSw⟩) ?_
            simp only [List.set_cons_succ, List.set_cons_zero]
            refine takeG (i := 1) (v := .agg (lcells Q'.j Q'.e r3 n f3 r4 n f4)) rfl rfl (by kernel_rfl) (by kernel_rfl) (by kernel_rfl) (by kernel_rfl) (fun _ _ _ h => h) (Or.inl ⟨by kernel_rfl, fun w' hSw => doesLoad 66 (.tmp 11) rfl _ _ rfl (hlt'.out w' hSw) hSw⟩) ?_
            simp only [List.set_cons_succ, List.set_cons_zero]
            refine takeG (i := 2) (v := .bool true) rfl rfl (by kernel_rfl) (by kernel_rfl) (by kernel_rfl) (by kernel_rfl) (fun _ _ _ h => h) (Or.inl ⟨by kernel_rfl, fun w' hSw => doesOf rfl (by kernel_rfl) fun K hK => ?_⟩) ?_
            · go_simp
              refine (HSA.out _ hSw).mono ?_
              rintro e w2 ⟨rfl, hb⟩
              exact hK.out _ (hSw.trans (hb.mono hSw.size))
            simp only [List.set_cons_succ, List.set_cons_zero]
            refine takeG (i := 3) (v := .bool false) rfl rfl (by kernel_rfl) (by kernel_rfl) (by kernel_rfl) (by kernel_rfl) (fun _ _ _ h => h) (Or.inl ⟨by kernel_rfl, fun w' hSw => Or.inl ⟨w', ?_, hSw⟩⟩) ?_
            · go_simp
            simp only [List.set_cons_succ, List.set_cons_zero]
            refine takeG (i := 4) (v := .bool false) rfl rfl (by kernel_rfl) (by kernel_rfl) (by kernel_rfl) (by kernel_rfl) (fun _ _ _ h => h) (Or.inl ⟨by kernel_rfl, fun w' hSw => Or.inl ⟨w', ?_, hSw⟩⟩) ?_
            · go_simp
            simp only [List.set_cons_succ, List.set_cons_zero]
            refine takeG (i := 5) (v := .agg #[.slice ao n d, .int .i64 S, .int .i64 B]) rfl rfl (by kernel_rfl) (by kernel_rfl) (by kernel_rfl) (by kernel_rfl) (fun _ _ _ h => h) (Or.inl ⟨by kernel_rfl, fun w' hSw => Or.inl ⟨w', ?_, hSw⟩⟩) ?_
            · have hl := hxs.out w' hSw; go_simp
            simp only [List.set_cons_succ, List.set_cons_zero]
            refine takeG (i := 6) (v := .agg (lcells Q'.j Q'.e r1 n f1 r2 n f2)) rfl rfl (by kernel_rfl) (by kernel_rfl) (by kernel_rfl) (by kernel_rfl) (fun _ _ _ h => h) (Or.inl ⟨by kernel_rfl, fun w' hSw => doesLoad 66 (.tmp 9) rfl _ _ rfl (hls.out w' hSw) hSw⟩) ?_
            simp only [List.set_cons_succ, List.set_cons_zero]
            refine takeG (i := 7) (v := chv 47 cap) rfl rfl (by kernel_rfl) (by kernel_rfl) (by kernel_rfl) (by kernel_rfl) (fun _ _ _ h => h) (Or.inl ⟨by kernel_rfl, fun w' hSw => Or.inl ⟨w', ?_, hSw⟩⟩) ?_
            · go_simp
            simp only [List.set_cons_succ, List.set_cons_zero]
            refine takeG (i := 8) (v := .agg J.cells) rfl rfl (by kernel_rfl) (by kernel_rfl) (by kernel_rfl) (by kernel_rfl) (fun _ _ _ h => h) (Or.inl ⟨by kernel_rfl, fun w' hSw => doesOf rfl (by kernel_rfl) fun K hK => ?_⟩) ?_
            · go_simp
              refine (HPL.out _ hSw).mono ?_
              rintro e w2 ⟨rfl, hb⟩
              exact hK.out _ (hSw.trans (hb.mono hSw.size))
            simp only [List.set_cons_succ, List.set_cons_zero]
            refine takeG (i := 9) (v := .agg #[.slice ao n d, .int .i64 S, .int .i64 B]) rfl rfl (by kernel_rfl) (by kernel_rfl) (by kernel_rfl) (by kernel_rfl) (fun _ _ _ h => h) (Or.inl ⟨by kernel_rfl, fun w' hSw => Or.inl ⟨w', ?_, hSw⟩⟩) ?_
            · have hl := hxs.out w' hSw; go_simp
            simp only [List.set_cons_succ, List.set_cons_zero]
            refine takeG (i := 10) (v := .agg (lcells Q'.j Q'.e r3 n f3 r4 n f4)) rfl rfl (by kernel_rfl) (by kernel_rfl) (by kernel_rfl) (by kernel_rfl) (fun _ _ _ h => h) (Or.inl ⟨by kernel_rfl, fun w' hSw => doesLoad 66 (.tmp 11) rfl _ _ rfl (hlt'.out w' hSw) hSw⟩) ?_
            simp only [List.set_cons_succ, List.set_cons_zero]
            refine takeG (i := 11) (v := chv 47 cap) rfl rfl (by kernel_rfl) (by kernel_rfl) (by kernel_rfl) (by kernel_rfl) (fun _ _ _ h => h) (Or.inl ⟨by kernel_rfl, fun w' hSw => Or.inl ⟨w', ?_, hSw⟩⟩) ?_
            · go_simp
            simp only [List.set_cons_succ, List.set_cons_zero]
            refine takeG (i := 12) (v := .agg J.cells) rfl rfl (by kernel_rfl) (by kernel_rfl) (by kernel_rfl) (by kernel_rfl) (fun _ _ _ h => h) (Or.inl ⟨by kernel_rfl, fun w' hSw => doesOf rfl (by kernel_rfl) fun K hK => ?_⟩) ?_
            · go_simp
              refine (HPW.out _ hSw).mono ?_
              rintro e w2 ⟨rfl, hb⟩
              exact hK.out _ (hSw.trans (hb.mono hSw.size))
            simp only [List.set_cons_succ, List.set_cons_zero]
            refine takeG (i := 13) (v := .bool false) rfl rfl (by kernel_rfl) (by kernel_rfl) (by kernel_rfl) (by kernel_rfl) (fun _ _ _ h => h) (Or.inl ⟨by kernel_rfl, fun w' hSw => Or.inl ⟨w', ?_, hSw⟩⟩) ?_
            · go_simp
            simp only [List.set_cons_succ, List.set_cons_zero]
            refine takeG (i := 14) (v := .bool false) rfl rfl (by kernel_rfl) (by kernel_rfl) (by kernel_rfl) (by kernel_rfl) (fun _ _ _ h => h) (Or.inl ⟨by kernel_rfl, fun w' hSw => Or.inl ⟨w', ?_, hSw⟩⟩) ?_
            · go_simp
            simp only [List.set_cons_succ, List.set_cons_zero]
            refine doneG (by kernel_rfl) fun w' hSw => ?_
            have HF := hide hSw
            clear hSw
            go_wp2
            go_meet
            exact ⟨rfl, HF⟩
          case rest =>
          obtain ⟨rfl, hbl⟩ := hcut
          have H2n := hide (H2'.out.below hbl.out)
          have HBn := hide (HB'.out.trans (hbl.out.mono HB'.out.size))
          clear HSA HPL HPW hneq hxs hls hlt' H2' HB' hbl
          go_wp2
          go_roundw
          case rel => exact ⟨i + 1, t', by go_num, rfl, by omega, ht0', by omega, hide ⟨Q', HQ'.out, ⟨_, _, _, _, _, _, _, _, H2n.out⟩, HBn.out⟩⟩
          case measure => simp [intOf]; omega
      · obtain rfl : i = len2 := by omega
        have HZ := hide (HN.out.trans (HBV.out.mono HN.out.size))
        go_wp2
        go_ret
        exact ⟨rfl, HZ.out⟩

set_option maxRecDepth 100000 in
theorem lifted (os : Os) (started : os.Started) (H : Type) (enc : TypeId × Value → H) :
    ReturnsInHanded {} Try.checked os 9 .any (Rows.ledgerScriptSpec.pre6 enc Try.prog Try.f9 Rows.ledgerScriptRow.domain false) (Rows.ledgerScriptSpec.post enc Try.prog Try.f9 false true false false) := by
  refine returnsInHanded_of_change_sized (C := Try.checked) own started (by kernel_rfl) Try.func9
    (ChangeSpec.witness6 (enc := enc) (C := Try.checked) false ⟨#[], #[.agg #[.slice none 0 0, .int .i64 0, .int .i64 0], .int .u8 0, .slice none 0 0], []⟩ 8 (by kernel_rfl) (by kernel_rfl) (by kernel_rfl) (by kernel_rfl)) ?_
  intro W base args ds gs before hval0 hW hcnd hsz0 _
  have hval : ∀ (j : Nat) t v, Try.f9.params[j]? = some t → args[j]? = some v → Value.okWide Try.prog W .any base t v := hval0
  have hsz : (DataW.weightsEach Try.prog (Try.f9.params.toList ++ Rows.ledgerScriptSpec.plain.varTypes Try.prog) (ds ++ gs)).all (· ≤ reachBytes) = true := hsz0
  have hW' := hW
  obtain ⟨p, q, hA0, hV, rfl, hfz, hnd⟩ := hW
  have hA : DataW.TrodAll enc Try.prog W 0 (fun _ => true) true Try.f9.params.toList args.toList ds p := hA0
  rw [Try.params9] at hA hval hsz
  obtain ⟨v0, vs0, d0, ds0, p0, q0, hargs, rfl, rfl, h0, r0⟩ := trodAll_cons hA
  obtain ⟨v1, vs1, d1, ds1, p1, q1, rfl, rfl, rfl, h1, r1⟩ := trodAll_cons r0
  obtain ⟨v2, vs2, d2, ds2, p2, q2, rfl, rfl, rfl, h2, r2⟩ := trodAll_cons r1
  obtain ⟨rfl, rfl, rfl⟩ := trodAll_nil r2
  obtain rfl : args = #[v0, v1, v2] := by cases args; simp_all
  obtain ⟨rfl, rfl⟩ := trodVars_none hV
  obtain ⟨cs0, rfl, sz0⟩ := okWide_struct Try.underlying24 (hval 0 24 v0 rfl rfl)
  rw [cells24] at sz0
  obtain ⟨l0⟩ := cs0
  obtain ⟨c0_0, c0_1, c0_2, rfl⟩ := list3 (show l0.length = 3 from sz0)
  clear sz0
  have k0 := h0
  have lt0 : ∀ x ∈ p0, x.block < W.heap.size := by obtain ⟨m, hm⟩ := k0; exact DataW.trod_lt m _ _ _ hm
  obtain ⟨fuel0, hf0⟩ := h0
  simp only [Value.cells] at hf0
  obtain ⟨xs0_0t24, n0_0t24, _, hx0_0t24, _, hlen0_0t24, hf0_0t24⟩ := DataW.trod_struct Try.underlying24 hf0
  obtain ⟨y0_0t24_0, y0_0t24_1, y0_0t24_2, rfl⟩ := list3 (show xs0_0t24.length = 3 from hlen0_0t24)
  have hy0_0t24_0 : DataW.trod enc Try.prog W 0 (fun _ => true) true n0_0t24 22 [c0_0] = some y0_0t24_0 := by simpa [Value.cells, cells3, cells4, cells5, cells22, cells24, cells37, cells56, cells62, cells68, cells70, cells72] using hf0_0t24 0 _ rfl
  have hy0_0t24_1 : DataW.trod enc Try.prog W 0 (fun _ => true) true n0_0t24 3 [c0_1] = some y0_0t24_1 := by simpa [Value.cells, cells3, cells4, cells5, cells22, cells24, cells37, cells56, cells62, cells68, cells70, cells72] using hf0_0t24 1 _ rfl
  have hy0_0t24_2 : DataW.trod enc Try.prog W 0 (fun _ => true) true n0_0t24 3 [c0_2] = some y0_0t24_2 := by simpa [Value.cells, cells3, cells4, cells5, cells22, cells24, cells37, cells56, cells62, cells68, cells70, cells72] using hf0_0t24 2 _ rfl
  obtain ⟨a0_0, len0_0, cap0_0, z0_0, e0_0, w0_0⟩ : ∃ a len cap zs, c0_0 = .slice a len cap ∧ IsRow .u64 W a len cap zs := by
    rcases open_ints Try.underlying22 Try.underlying37 (by kernel_rfl) hy0_0t24_0 with ⟨hcs, _⟩ | ⟨x, l, c, zs, hcs, _, hl, hm, hz, _, hcell, hwz⟩
    · simp at hcs
      exact ⟨none, 0, 0, [], hcs, .inl ⟨rfl, rfl, rfl, rfl⟩⟩
    · simp at hcs
      exact ⟨_, _, _, zs, hcs, .inr ⟨_, rfl, hl, hm, by simpa using hz, hcell, hwz⟩⟩
  subst e0_0
  obtain ⟨a0_1, e0_1, x0_1, w0_1⟩ := DataW.trod_int Try.underlying3 hy0_0t24_1
  simp at e0_1
  subst e0_1
  obtain ⟨a0_2, e0_2, x0_2, w0_2⟩ := DataW.trod_int Try.underlying3 hy0_0t24_2
  simp at e0_2
  subst e0_2
  obtain ⟨a1, rfl, rfl, rfl, w1⟩ := open_int Try.underlying5 (hval 1 5 v1 rfl rfl) h1
  obtain ⟨a2, len2, cap2, rfl⟩ := okWide_slice Try.underlying56 (hval 2 56 v2 rfl rfl)
  have k2 := h2
  have lt2 : ∀ x ∈ p2, x.block < W.heap.size := by obtain ⟨m, hm⟩ := k2; exact DataW.trod_lt m _ _ _ hm
  have wt2 : ∀ n ∈ d2.weights Try.prog 56, n ≤ reachBytes := fun n hn => by
    have := List.all_eq_true.1 hsz n (DataW.weights_mem_each (j := 2) (t := 56) (d := d2) rfl rfl n hn)
    simpa using this
  obtain ⟨fuel2, hf2⟩ := h2
  simp only [Value.cells] at hf2
  obtain ⟨e2, w2, r2S⟩ := (Sh.readS reachBytes _).1 _ _ _ _ has56 hf2 wt2
  clear hA0 hval0
  refine (walk a0_0 len0_0 cap0_0 z0_0 a0_1 a0_2 a1 a2 len2 cap2 e2 W w0_0 w0_1 w0_2 w1 w2 r2S).mono fun e W' ⟨he, bel⟩ => ?_
  subst he
  exact ⟨_, rfl, _, _, _, [], _, [], hW', trodAll_mk1 (shut_bool Try.underlying4 _), (trodAll_cons_mk (Below.trod laidOut (by kernel_rfl) (of_decide_eq_true (by kernel_rfl)) k0 bel lt0) (trodAll_cons_mk (shut_int Try.underlying5 w1) (trodAll_cons_mk (Below.trod laidOut (by kernel_rfl) (of_decide_eq_true (by kernel_rfl)) k2 bel lt2) trodAll_mk0))), rfl, bel.frame _, fun h => by cases h⟩

theorem over : Rows.ledgerScriptRow.holds Try.pinned (OpenSpec.ofChange Rows.ledgerScriptSpec) :=
  OpenClaim.holds_of_wide 9 Try.f9 rfl rfl rfl rfl rfl rfl rfl ⟨rfl, rfl, rfl, rfl, rfl⟩ rfl rfl rfl rfl rfl (by kernel_rfl) Try.func9 (by kernel_rfl)
    (of_decide_eq_true (by kernel_rfl)) (by unfold Func.isWrapper; first | (rw [if_pos (by decide +kernel)]; kernel_rfl) | (rw [if_neg (by decide +kernel)]; exact ⟨rfl, rfl⟩))
    (fun os started H enc _ => lifted os started H enc)

theorem proved : Rows.LedgerScriptSaid := over
end Go.Proofs.Ytphahkjjmomjcaa.ledgerScript

/- Contract of LedgerKeeps' own function: a vote that counts, of any. -/
import Derived.Test.YtedpieepfbcboaaLLaw

import Derived.Test.YtedpieepfbcboaaVMake

namespace Go.Proofs.Ytedpieepfbcboaa

open Go.ChangeShapes Go.WideShapes Go.ChangeAt Go.RowKit

set_option linter.unusedVariables false

theorem infoVO : (Try.prog.info? 43).map (·.size) = some 7 := by kernel_rfl

set_option maxRecDepth 100000 in
set_option maxHeartbeats 4000000 in
theorem fix_any (zs : List Int) (S : LS) (F : Nat) (cap : Array Value) (f : Int → Int) (a : Option Addr) (n c : Nat) (s b : Int) (a1 : Option Addr) (l1 c1 : Nat) (a2 : Option Addr) (l2 c2 : Nat) (vs vh se sr te tr : Int) (a3 : Option Addr) (l3 c3 : Nat) (hx hs ha : Nat) (w : World)
    (hX : OAt w hx (cfg a n c s b)) (hS : OAt w hs (lobj S.j S.e a1 l1 c1 a2 l2 c2)) (hA : OAt w ha (.cells #[chv F cap] 29)) (hR : RowIn .i64 w a3 l3 c3 zs) (hF : Enters F) (hC : ChainOf w F cap f)
    (hn : 1 ≤ n ∧ n ≤ 4096) (hs1 : 1 ≤ s ∧ s ≤ 64) (hvs : I64s vs) (hvh : 0 ≤ vh ∧ vh ≤ 18446744073709551615) (hse : I64s se) (hsr : 0 ≤ sr ∧ sr ≤ 18446744073709551615) (htr : 0 ≤ tr ∧ tr ≤ 18446744073709551615) :
    Calls Try.prog 25 #[.agg (vcells vs vh se sr te tr a3 l3 c3), .pointer (some ⟨hx, 0, none⟩), .pointer (some ⟨hs, 0, none⟩), .pointer (some ⟨ha, 0, none⟩)] w fun x w' =>
      ∃ ao d, x = .returned (.agg (vcells 0 (vh % 8) S.j.ce S.j.cr 0 (f (stI 0 s)) ao (mvW n zs).length d)) ∧ RowIn .i64 w' ao (mvW n zs).length d (mvW n zs) ∧ (∀ b off, ao = some ⟨b, off, none⟩ → w.heap.size ≤ b) ∧ Below w.heap.size w w' := by
  have VZ : Obj := vobj 0 0 0 0 0 0 none 0 0
  have HX := hide ((hX.alloc (vobj vs vh se sr te tr a3 l3 c3)).alloc (vobj 0 0 0 0 0 0 none 0 0))
  have HS := hide ((hS.alloc (vobj vs vh se sr te tr a3 l3 c3)).alloc (vobj 0 0 0 0 0 0 none 0 0))
  have HA := hide ((hA.alloc (vobj vs vh se sr te tr a3 l3 c3)).alloc (vobj 0 0 0 0 0 0 none 0 0))
  have HR := hide ((hR.alloc (vobj vs vh se sr te tr a3 l3 c3)).alloc (vobj 0 0 0 0 0 0 none 0 0))
  have HV := hide ((OAt.new w (vobj vs vh se sr te tr a3 l3 c3)).alloc (vobj 0 0 0 0 0 0 none 0 0))
  have HT := hide (OAt.new (w.alloc (vobj vs vh se sr te tr a3 l3 c3)) (vobj 0 0 0 0 0 0 none 0 0))
  have HN := hide (((Below.refl _ w).alloc (Nat.le_refl _) (vobj vs vh se sr te tr a3 l3 c3)).alloc (by simp) (vobj 0 0 0 0 0 0 none 0 0))
  have hxl := hX.lt
  have hsl := hS.lt
  have hal := hA.lt
  have HC := hide hC
  simp only [World.size_alloc] at HT
  clear hX hS hA hR hC VZ
  go_enter Try.func25, Try.ntmps25
  go_upto_region 1 with fail
  generalize hW : (w.alloc (vobj vs vh se sr te tr a3 l3 c3)).alloc (vobj 0 0 0 0 0 0 none 0 0) = W at HX HS HA HR HV HT HN
  have hWs : W.heap.size = w.heap.size + 1 + 1 := by rw [← hW]; simp
  clear hW
  have v0 := HV.out.cell 0
  have v1 := HV.out.cell 1
  have v2 := HV.out.cell 2
  have v3 := HV.out.cell 3
  have v4 := HV.out.cell 4
  have v5 := HV.out.cell 5
  have v6 := HV.out.cell 6
  have x0 := HX.out.cell 0
  have x1 := HX.out.cell 1
  have x2 := HX.out.cell 2
  simp only [List.getElem?_toArray, List.getElem?_cons_zero, List.getElem?_cons_succ] at v0 v1 v2 v3 v4 v5 v6 x0 x1 x2
  have HMK := hide (make5_new zs a n c s b vs vh se sr te tr a3 l3 c3 W HR.out hn hs1 hvs hvh hse hsr htr)
  go_wp2_with fail
  refine HMK.out.mono ?_
  rintro em w1 ⟨ao, d, rfl, R1, hbel, N1⟩
  obtain ⟨m, hm⟩ : ∃ x, Hid ((mvW n zs).length = x) := ⟨_, rfl⟩
  obtain ⟨q1, hq1⟩ : ∃ x, Hid (vs % 200 = x) := ⟨_, rfl⟩
  obtain ⟨q2, hq2⟩ : ∃ x, Hid (vh % 8 = x) := ⟨_, rfl⟩
  obtain ⟨q3, hq3⟩ : ∃ x, Hid (se % (epo (vs % 200) s + 1) = x) := ⟨_, rfl⟩
  obtain ⟨q4, hq4⟩ : ∃ x, Hid (sr % 8 = x) := ⟨_, rfl⟩
  obtain ⟨q5, hq5⟩ : ∃ x, Hid (epo (vs % 200) s = x) := ⟨_, rfl⟩
  obtain ⟨q6, hq6⟩ : ∃ x, Hid (tr % 8 = x) := ⟨_, rfl⟩
  rw [hq3.out, hq5.out, hq1.out, hq2.out, hq4.out, hq6.out, hm.out]
  rw [hm.out] at R1
  obtain ⟨w2, hrun, ho2, ha2⟩ := store_obj (P := Try.prog) (ty := 43) (n := 7) (cs := (vcells q1 q2 q3 q4 q5 q6 ao m d).toList) infoVO rfl rfl (by simp [Value.oneCell']) (HV.out.below hbel).at_
  have hrun' := hide hrun
  have HX2 := hide ((HX.out.below hbel).apart ha2 (by omega))
  have HS2 := hide ((HS.out.below hbel).apart ha2 (by omega))
  have HA2 := hide ((HA.out.below hbel).apart ha2 (by omega))
  have HT2 := hide ((HT.out.below hbel).apart ha2 (by omega))
  have HV2 : Hid (OAt w2 w.heap.size (vobj q1 q2 q3 q4 q5 q6 ao m d)) := OAt.of ho2
  have HR2 := hide (R1.aside ha2 (fun b off e => by have := N1 b off e; omega))
  have HN2 := hide ((HN.out.trans (hbel.mono (by omega))).trans (ha2.old _ (by have := hbel.size; omega) (by omega)))
  have HNN : Hid (∀ b off, ao = some ⟨b, off, none⟩ → W.heap.size ≤ b) := N1
  clear HMK hrun ho2 ha2 hbel R1 N1 HX HS HA HR HV HT v0 v1 v2 v3 v4 v5 v6 x0 x1 x2
  go_upto_region 2 with (refine wpList_store_at 43 (.tmp 4) (.tmp 8) rfl rfl _ _ rfl rfl w2 hrun'.out ?_)
  obtain ⟨Y, hY⟩ : ∃ x, Hid (f (stI 0 s) = x) := ⟨_, rfl⟩
  have hcs : Hid (∀ w', Apart w.heap.size w2 w' → w'.cell? ⟨hx, 0, none⟩ = some (.slice a n c) ∧ w'.cell? ⟨hx, 1, none⟩ = some (.int .i64 s) ∧ w'.cell? ⟨hx, 2, none⟩ = some (.int .i64 b) ∧ w'.cell? ⟨hs, 6, none⟩ = some (.int .i64 S.j.ce) ∧ w'.cell? ⟨hs, 7, none⟩ = some (.int .u64 S.j.cr) ∧ w'.cell? ⟨ha, 0, none⟩ = some (chv F cap)) := fun w' h => by
    have V := HX2.out.apart h (by omega)
    have U := HS2.out.apart h (by omega)
    have A := HA2.out.apart h (by omega)
    exact ⟨V.cell 0, V.cell 1, V.cell 2, U.cell 6, U.cell 7, A.cell 0⟩
  have hbd : Hid (Below w2.heap.size w2 w2.drew) := hide (Below.refl _ _).drew
  have hsi : I64s s := by unfold I64s; omega
  have h0i : I64s 0 := by unfold I64s; omega
  have hw2s : w.heap.size + 1 < w2.heap.size := HT2.out.lt
  refine wp_region_noPanic ?_
  refine wp_region_held_drew (S := fun w' => Apart w.heap.size w2 w') (by kernel_rfl) (Apart.of hbd.out) (fun hHeld => ?_)
  refine take_set (i := 0) (v := .pointer (some ⟨hs, 0, none⟩)) rfl rfl (by kernel_rfl) (by kernel_rfl) (by kernel_rfl) (fun _ _ _ h => h) (Or.inl ⟨by kernel_rfl, fun w' hSw => ?_⟩) hHeld ?_
  · go_simp
  simp only [List.set_cons_succ, List.set_cons_zero]
  refine take_set (i := 1) (v := .pointer (some ⟨hs, 6, none⟩)) rfl rfl (by kernel_rfl) (by kernel_rfl) (by kernel_rfl) (fun _ _ _ h => h) (Or.inl ⟨by kernel_rfl, fun w' hSw => ?_⟩) hHeld ?_
  · go_simp
  simp only [List.set_cons_succ, List.set_cons_zero]
  refine take_set (i := 2) (v := .agg (pcells S.j.ce S.j.cr)) rfl rfl (by kernel_rfl) (by kernel_rfl) (by kernel_rfl) (fun _ _ _ h => h) (Or.inl ⟨by kernel_rfl, fun w' hSw => ?_⟩) hHeld ?_
  · have hl := hcs.out w' hSw; go_simp
  simp only [List.set_cons_succ, List.set_cons_zero]
  refine take_set (i := 3) (v := .agg #[.slice a n c, .int .i64 s, .int .i64 b]) rfl rfl (by kernel_rfl) (by kernel_rfl) (by kernel_rfl) (fun _ _ _ h => h) (Or.inl ⟨by kernel_rfl, fun w' hSw => ?_⟩) hHeld ?_
  · have hl := hcs.out w' hSw; go_simp
  simp only [List.set_cons_succ, List.set_cons_zero]
  refine take_set (i := 4) (v := chv F cap) rfl rfl (by kernel_rfl) (by kernel_rfl) (by kernel_rfl) (fun _ _ _ h => h) (Or.inl ⟨by kernel_rfl, fun w' hSw => ?_⟩) hHeld ?_
  · have hl := hcs.out w' hSw; go_simp
  simp only [List.set_cons_succ, List.set_cons_zero]
  refine take_set (i := 6) (v := .pointer (some ⟨w.heap.size, 0, none⟩)) rfl rfl (by kernel_rfl) (by kernel_rfl) (by kernel_rfl) (fun _ _ _ h => h) (Or.inl ⟨by kernel_rfl, fun w' hSw => ?_⟩) hHeld ?_
  · go_simp
  simp only [List.set_cons_succ, List.set_cons_zero]
  refine wpAnyH_ready (rs := [5]) (by kernel_rfl) (by simp) ?_
  refine AllReadyH.cons (o := _) rfl (fun K hK => ?_) AllReadyH.nil
  go_simp
  refine (point_law F cap f a n c s b 0 _ hF (HC.out.below (HN2.out.trans (hbd.out.mono (by omega)))) h0i hsi).mono ?_
  rintro ep w3 ⟨rfl, hbel⟩
  rw [hY.out]
  replace hbd := hide (hbd.out.trans (hbel.mono hbd.out.size))
  clear hbel
  refine hK.out _ _ (Apart.of hbd.out) (fun hHeld => ?_)
  clear hK K
  have HV3 := HV2.out.below hbd.out
  have V0 : OAt (w3.setCell ⟨w.heap.size, 0, none⟩ (.int .i64 0)) w.heap.size (vobj 0 q2 q3 q4 q5 q6 ao m d) := HV3.set 0 (.int .i64 0)
  have V1 : OAt ((w3.setCell ⟨w.heap.size, 0, none⟩ (.int .i64 0)).setCell ⟨w.heap.size, 2, none⟩ (.int .i64 S.j.ce)) w.heap.size (vobj 0 q2 S.j.ce q4 q5 q6 ao m d) := V0.set 2 (.int .i64 S.j.ce)
  have V2 : OAt (((w3.setCell ⟨w.heap.size, 0, none⟩ (.int .i64 0)).setCell ⟨w.heap.size, 2, none⟩ (.int .i64 S.j.ce)).setCell ⟨w.heap.size, 3, none⟩ (.int .u64 S.j.cr)) w.heap.size (vobj 0 q2 S.j.ce S.j.cr q5 q6 ao m d) := V1.set 3 (.int .u64 S.j.cr)
  have V3 : OAt ((((w3.setCell ⟨w.heap.size, 0, none⟩ (.int .i64 0)).setCell ⟨w.heap.size, 2, none⟩ (.int .i64 S.j.ce)).setCell ⟨w.heap.size, 3, none⟩ (.int .u64 S.j.cr)).setCell ⟨w.heap.size, 4, none⟩ (.int .i64 0)) w.heap.size (vobj 0 q2 S.j.ce S.j.cr 0 q6 ao m d) := V2.set 4 (.int .i64 0)
  have V4 : OAt (((((w3.setCell ⟨w.heap.size, 0, none⟩ (.int .i64 0)).setCell ⟨w.heap.size, 2, none⟩ (.int .i64 S.j.ce)).setCell ⟨w.heap.size, 3, none⟩ (.int .u64 S.j.cr)).setCell ⟨w.heap.size, 4, none⟩ (.int .i64 0)).setCell ⟨w.heap.size, 5, none⟩ (.int .u64 Y)) w.heap.size (vobj 0 q2 S.j.ce S.j.cr 0 Y ao m d) := V3.set 5 (.int .u64 Y)
  have A0 := hide ((Apart.of (r := w.heap.size) hbd.out).set 0 (.int .i64 0))
  have A2 := hide ((A0.out.set 2 (.int .i64 S.j.ce)).set 3 (.int .u64 S.j.cr))
  have A4 := hide ((A2.out.set 4 (.int .i64 0)).set 5 (.int .u64 Y))
  have HV4 := hide V4
  have c0 : ∀ i, w3.frozen? ⟨w.heap.size, i, none⟩ = false := HV3.soft
  have d0 := HV3.cell 0
  have d2 := V0.cell 2
  have d3 := V0.cell 3
  have d4 := V2.cell 4
  have d5 := V2.cell 5
  simp only [List.getElem?_toArray, List.getElem?_cons_zero, List.getElem?_cons_succ] at d0 d2 d3 d4 d5
  have c2 := V0.soft
  have c4 := V2.soft
  clear V0 V1 V2 V3 V4 HV3
  refine wpAnyH_ready (rs := [7]) (by kernel_rfl) (by simp) ?_
  refine AllReadyH.cons (o := _) rfl (fun K hK => ?_) AllReadyH.nil
  go_simp
  refine hK.out _ _ (A0.out) (fun hHeld => ?_)
  clear hK K
  refine take_set (i := 8) (v := .pointer (some ⟨w.heap.size, 2, none⟩)) rfl rfl (by kernel_rfl) (by kernel_rfl) (by kernel_rfl) (fun _ _ _ h => h) (Or.inl ⟨by kernel_rfl, fun w' hSw => ?_⟩) hHeld ?_
  · go_simp
  simp only [List.set_cons_succ, List.set_cons_zero]
  refine wpAnyH_ready (rs := [9]) (by kernel_rfl) (by simp) ?_
  refine AllReadyH.cons (o := _) rfl (fun K hK => ?_) AllReadyH.nil
  go_simp
  refine hK.out _ _ (A2.out) (fun hHeld => ?_)
  clear hK K
  refine take_set (i := 10) (v := .pointer (some ⟨w.heap.size, 4, none⟩)) rfl rfl (by kernel_rfl) (by kernel_rfl) (by kernel_rfl) (fun _ _ _ h => h) (Or.inl ⟨by kernel_rfl, fun w' hSw => ?_⟩) hHeld ?_
  · go_simp
  simp only [List.set_cons_succ, List.set_cons_zero]
  refine wpAnyH_ready (rs := [11]) (by kernel_rfl) (by simp) ?_
  refine AllReadyH.cons (o := _) rfl (fun K hK => ?_) AllReadyH.nil
  go_simp
  refine hK.out _ _ (A4.out) (fun hHeld => ?_)
  clear hK K
  refine wpAnyH_done (by kernel_rfl) ?_ _
  refine NoPanic.normal ?_
  generalize ((((w3.setCell ⟨w.heap.size, 0, none⟩ (.int .i64 0)).setCell ⟨w.heap.size, 2, none⟩ (.int .i64 S.j.ce)).setCell ⟨w.heap.size, 3, none⟩ (.int .u64 S.j.cr)).setCell ⟨w.heap.size, 4, none⟩ (.int .i64 0)).setCell ⟨w.heap.size, 5, none⟩ (.int .u64 Y) = w5 at A4 HV4
  clear A0 A2 c0 c2 c4 d0 d2 d3 d4 d5 hcs hbd hHeld
  have LD := hide (load_obj Try.underlying43 infoVO rfl HV4.out.at_)
  have HT5 := HT2.out.apart A4.out (by omega)
  obtain ⟨w6, hrun, ho6, ha6⟩ := store_obj (P := Try.prog) (ty := 43) (n := 7) (cs := (vcells 0 q2 S.j.ce S.j.cr 0 Y ao m d).toList) infoVO rfl rfl (by simp [Value.oneCell']) HT5.at_
  have HQ := hide ((HR2.out.aside A4.out (fun b off e => by have := HNN.out b off e; omega)).aside ha6 (fun b off e => by have := HNN.out b off e; omega))
  have HN6 := hide ((HN2.out.trans (A4.out.old _ (by omega) (Nat.le_refl _))).trans (ha6.old _ (by have := A4.out.size; omega) (by omega)))
  have hrun2 := hide hrun
  clear hrun ha6 HT5
  go_wp2_with (first | refine wpList_load_at 43 (.tmp 4) rfl rfl _ rfl _ LD.out ?_ | refine wpList_store_at 43 (.tmp 5) (.tmp 18) rfl rfl _ _ rfl rfl w6 hrun2.out ?_)
  exact ret_struct rfl rfl ho6 Try.underlying43 infoVO rfl ⟨ao, d, by rw [hY.out, hq2.out, hm.out], by rw [hm.out]; exact HQ.out, fun b off e => by have := HNN.out b off e; omega, HN6.out⟩
end Go.Proofs.Ytedpieepfbcboaa

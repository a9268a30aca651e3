/- Contract of justify.Next. -/
import Derived.Test.YtphahkjjmomjcaaJFin

import Derived.Test.YtphahkjjmomjcaaObjs

import Derived.Test.YtphahkjjmomjcaaHand

import Derived.Deep.RegionHeld3

namespace Go.Proofs.Ytphahkjjmomjcaa

open Go.ChangeShapes Go.WideShapes Go.ChangeAt Go.RowKit

set_option linter.unusedVariables false

/-- the second bit; what is justified now -/
def bit1 (b0 before : Bool) : Bool := bif before then true else b0
def curI (before now : Bool) (c f s : Int) : Int := bif now then s else bif before then f else c
abbrev nextC (b0 b1 b2 : Bool) (pe pr ce cr fe fr e : Int) (before now : Bool) (e1 r1 e2 r2 : Int) : Array Value :=
  scells now (bit1 b0 before) b1 b2 ce cr (curI before now ce e1 e2) (curI before now cr r1 r2) (finI now (bit1 b0 before) b1 b2 pe ce e pe ce fe) (finI now (bit1 b0 before) b1 b2 pe ce e pr cr fr)

theorem OAt.set {w : World} {g : Nat} {C : Array Value} {t : TypeId} {m : Nat × Nat} (h : OAt w g (.cells C t m)) (o : Nat) (v : Value) : OAt (w.setCell ⟨g, o, none⟩ v) g (.cells (C.setIfInBounds o v) t m) := OAt.of (set_obj h.at_ o v)
theorem OAt.set_ne {w : World} {g b : Nat} {x : Obj} (h : OAt w b x) (hne : ¬ b = g) (o : Nat) (v : Value) : OAt (w.setCell ⟨g, o, none⟩ v) b x := h.apart ((Apart.refl g w).set o v) hne

set_option maxRecDepth 100000 in
set_option maxHeartbeats 2000000 in
theorem next_any (b0 b1 b2 b3 : Bool) (pe pr ce cr fe fr e : Int) (before now : Bool) (e1 r1 e2 r2 : Int) (w : World) :
    Calls Try.prog 53 #[.agg (scells b0 b1 b2 b3 pe pr ce cr fe fr), .int .i64 e, .bool before, .bool now, .agg (pcells e1 r1), .agg (pcells e2 r2)] w fun x w' =>
      x = .returned (.agg (nextC b0 b1 b2 pe pr ce cr fe fr e before now e1 r1 e2 r2)) ∧ Below w.heap.size w w' := by
  have HS := hide ((((OAt.new w (.cells (scells b0 b1 b2 b3 pe pr ce cr fe fr) 64)).alloc (.cells (pcells e1 r1) 62)).alloc (.cells (pcells e2 r2) 62)).alloc (.cells (scells false false false false 0 0 0 0 0 0) 64))
  have HA := hide (((OAt.new (w.alloc (.cells (scells b0 b1 b2 b3 pe pr ce cr fe fr) 64)) (.cells (pcells e1 r1) 62)).alloc (.cells (pcells e2 r2) 62)).alloc (.cells (scells false false false false 0 0 0 0 0 0) 64))
  have HB := hide ((OAt.new ((w.alloc (.cells (scells b0 b1 b2 b3 pe pr ce cr fe fr) 64)).alloc (.cells (pcells e1 r1) 62)) (.cells (pcells e2 r2) 62)).alloc (.cells (scells false false false false 0 0 0 0 0 0) 64))
  have HR := hide (OAt.new (((w.alloc (.cells (scells b0 b1 b2 b3 pe pr ce cr fe fr) 64)).alloc (.cells (pcells e1 r1) 62)).alloc (.cells (pcells e2 r2) 62)) (.cells (scells false false false false 0 0 0 0 0 0) 64))
  have HN := hide (((((Below.refl _ w).alloc (Nat.le_refl _) (.cells (scells b0 b1 b2 b3 pe pr ce cr fe fr) 64)).alloc (by simp) (.cells (pcells e1 r1) 62)).alloc (by simp; omega) (.cells (pcells e2 r2) 62)).alloc (by simp; omega) (.cells (scells false false false false 0 0 0 0 0 0) 64))
  simp only [World.size_alloc] at HS HA HB HR
  obtain ⟨w4, hw4⟩ : ∃ x, Hid ((((w.alloc (.cells (scells b0 b1 b2 b3 pe pr ce cr fe fr) 64)).alloc (.cells (pcells e1 r1) 62)).alloc (.cells (pcells e2 r2) 62)).alloc (.cells (scells false false false false 0 0 0 0 0 0) 64) = x) := ⟨_, rfl⟩
  have hsz : Hid (w4.heap.size = w.heap.size + 1 + 1 + 1 + 1) := by show w4.heap.size = _; rw [← hw4.out]; simp
  rw [hw4.out] at HS HA HB HR HN
  go_enter Try.func53, Try.ntmps53
  go_upto_region 1 with fail
  rw [show (#[Value.bool false, Value.bool false, Value.bool false, Value.bool false, Value.int IntKind.i64 0, Value.int IntKind.u64 0, Value.int IntKind.i64 0, Value.int IntKind.u64 0, Value.int IntKind.i64 0, Value.int IntKind.u64 0] : Array Value) = scells false false false false 0 0 0 0 0 0 from rfl, hw4.out]
  go_cut [13] from 14 to 21 (fun x wx => ∃ g, x = Value.pointer (some ⟨g, 0, none⟩) ∧ Hid (w4.heap.size ≤ g ∧ OAt wx g (.cells (scells false b0 b1 b2 ce cr ce cr 0 0) 64) ∧ Below w4.heap.size w4 wx))
  case first =>
    have hcs : Hid (∀ w', Below w4.heap.size w4 w' → w'.cell? ⟨w.heap.size, 0, none⟩ = some (.bool b0) ∧ w'.cell? ⟨w.heap.size, 1, none⟩ = some (.bool b1) ∧ w'.cell? ⟨w.heap.size, 2, none⟩ = some (.bool b2) ∧ w'.cell? ⟨w.heap.size, 3, none⟩ = some (.bool b3) ∧ w'.cell? ⟨w.heap.size, 6, none⟩ = some (.int .i64 ce) ∧ w'.cell? ⟨w.heap.size, 7, none⟩ = some (.int .u64 cr)) := fun w' h =>
      have V := HS.out.below h
      ⟨V.cell 0, V.cell 1, V.cell 2, V.cell 3, V.cell 6, V.cell 7⟩
    have hbd : Hid (Below w4.heap.size w4 w4.drew) := hide (Below.refl _ _).drew
    refine wp_region_noPanic ?_
    refine wp_region_held_drew (S := fun w' => w'.cell? ⟨w.heap.size, 0, none⟩ = some (.bool b0) ∧ w'.cell? ⟨w.heap.size, 1, none⟩ = some (.bool b1) ∧ w'.cell? ⟨w.heap.size, 2, none⟩ = some (.bool b2) ∧ w'.cell? ⟨w.heap.size, 3, none⟩ = some (.bool b3) ∧ w'.cell? ⟨w.heap.size, 6, none⟩ = some (.int .i64 ce) ∧ w'.cell? ⟨w.heap.size, 7, none⟩ = some (.int .u64 cr)) (by kernel_rfl) (hcs.out _ hbd.out) (fun hHeld => ?_)
    refine take_set (i := 0) (v := .pointer (some ⟨w.heap.size, 0, none⟩)) rfl rfl (by kernel_rfl) (by kernel_rfl) (by kernel_rfl) (fun _ _ _ h => h) (Or.inl ⟨by kernel_rfl, fun w' hSw => ?_⟩) hHeld ?_
    · go_simp
    simp only [List.set_cons_succ, List.set_cons_zero]
    refine take_set (i := 1) (v := .agg (bcells b0 b1 b2 b3)) rfl rfl (by kernel_rfl) (by kernel_rfl) (by kernel_rfl) (fun _ _ _ h => h) (Or.inl ⟨by kernel_rfl, fun w' hSw => ?_⟩) hHeld ?_
    · go_simp
    simp only [List.set_cons_succ, List.set_cons_zero]
    refine take_set (i := 3) (v := .pointer (some ⟨w.heap.size, 6, none⟩)) rfl rfl (by kernel_rfl) (by kernel_rfl) (by kernel_rfl) (fun _ _ _ h => h) (Or.inl ⟨by kernel_rfl, fun w' hSw => ?_⟩) hHeld ?_
    · go_simp
    simp only [List.set_cons_succ, List.set_cons_zero]
    refine take_set (i := 4) (v := .agg (pcells ce cr)) rfl rfl (by kernel_rfl) (by kernel_rfl) (by kernel_rfl) (fun _ _ _ h => h) (Or.inl ⟨by kernel_rfl, fun w' hSw => ?_⟩) hHeld ?_
    · go_simp
    simp only [List.set_cons_succ, List.set_cons_zero]
    refine take_set (i := 5) (v := .pointer (some ⟨w.heap.size, 6, none⟩)) rfl rfl (by kernel_rfl) (by kernel_rfl) (by kernel_rfl) (fun _ _ _ h => h) (Or.inl ⟨by kernel_rfl, fun w' hSw => ?_⟩) hHeld ?_
    · go_simp
    simp only [List.set_cons_succ, List.set_cons_zero]
    refine take_set (i := 6) (v := .agg (pcells ce cr)) rfl rfl (by kernel_rfl) (by kernel_rfl) (by kernel_rfl) (fun _ _ _ h => h) (Or.inl ⟨by kernel_rfl, fun w' hSw => ?_⟩) hHeld ?_
    · go_simp
    simp only [List.set_cons_succ, List.set_cons_zero]
    refine wpAnyH_ready (rs := [2, 8]) (by kernel_rfl) (by simp) ?_
    refine AllReadyH.cons (o := _) rfl (fun K hK => ?_) (AllReadyH.cons (o := _) rfl (fun K hK => ?_) AllReadyH.nil)
    · go_simp
      refine (shift_any _ _ _ _ _).mono ?_
      rintro e w5 ⟨rfl, hbel⟩
      replace hbd := hide (hbd.out.trans (hbel.mono hbd.out.size))
      clear hbel
      refine hK.out _ _ (hcs.out _ hbd.out) (fun hHeld => ?_)
      clear hK K
      refine take_set (i := 7) (v := .agg (scells false b0 b1 b2 ce cr ce cr 0 0)) rfl rfl (by kernel_rfl) (by kernel_rfl) (by kernel_rfl) (fun _ _ _ h => h) (Or.inl ⟨by kernel_rfl, fun w' hSw => ?_⟩) hHeld ?_
      · go_simp
      simp only [List.set_cons_succ, List.set_cons_zero]
      have HG := hide hbd.out.size
      have HO := hide (OAt.new w5 (.cells (scells false false false false 0 0 0 0 0 0) 64))
      replace hbd := hide (hbd.out.alloc hbd.out.size (.cells (scells false false false false 0 0 0 0 0 0) 64))
      refine wpAnyH_ready (rs := [8]) (by kernel_rfl) (by simp) ?_
      refine AllReadyH.cons (o := _) rfl (fun K hK => ?_) AllReadyH.nil
      go_simp
      refine hK.out _ _ (hcs.out _ hbd.out) (fun hHeld => ?_)
      clear hK K
      obtain ⟨w6, hrun, ho6, ha6⟩ := store_obj (P := Try.prog) (ty := 64) (n := 10) (cs := [.bool false, .bool b0, .bool b1, .bool b2, .int .i64 ce, .int .u64 cr, .int .i64 ce, .int .u64 cr, .int .i64 0, .int .u64 0]) (by kernel_rfl) rfl rfl (by simp [Value.oneCell']) HO.out.at_
      replace hbd := hide (hbd.out.trans (ha6.old _ hbd.out.size HG.out))
      refine wpAnyH_ready (rs := [9]) (by kernel_rfl) (by simp) ?_
      refine AllReadyH.cons (o := _) rfl (fun K hK => ?_) AllReadyH.nil
      refine step_store_at 64 (.tmp 13) (.tmp 21) rfl rfl _ _ rfl rfl w6 hrun ?_
      refine hK.out _ _ (hcs.out _ hbd.out) (fun hHeld => ?_)
      clear hK K
      refine wpAnyH_done (by kernel_rfl) ?_ _
      refine NoPanic.normal ?_
      go_wp2
      go_meet
      exact ⟨_, rfl, hide ⟨HG.out, OAt.of ho6, hbd.out⟩⟩
    · go_simp
      have HG := hide (Nat.le_refl w4.heap.size)
      have HO := hide (OAt.new w4.drew (.cells (scells false false false false 0 0 0 0 0 0) 64))
      replace hbd := hide (hbd.out.alloc hbd.out.size (.cells (scells false false false false 0 0 0 0 0 0) 64))
      refine hK.out _ _ (hcs.out _ hbd.out) (fun hHeld => ?_)
      clear hK K
      refine wpAnyH_ready (rs := [2]) (by kernel_rfl) (by simp) ?_
      refine AllReadyH.cons (o := _) rfl (fun K hK => ?_) AllReadyH.nil
      go_simp
      refine (shift_any _ _ _ _ _).mono ?_
      rintro e w5 ⟨rfl, hbel⟩
      replace hbd := hide (hbd.out.trans (hbel.mono hbd.out.size))
      replace HO := hide (HO.out.below hbel)
      clear hbel
      refine hK.out _ _ (hcs.out _ hbd.out) (fun hHeld => ?_)
      clear hK K
      refine take_set (i := 7) (v := .agg (scells false b0 b1 b2 ce cr ce cr 0 0)) rfl rfl (by kernel_rfl) (by kernel_rfl) (by kernel_rfl) (fun _ _ _ h => h) (Or.inl ⟨by kernel_rfl, fun w' hSw => ?_⟩) hHeld ?_
      · go_simp
      simp only [List.set_cons_succ, List.set_cons_zero]
      obtain ⟨w6, hrun, ho6, ha6⟩ := store_obj (P := Try.prog) (ty := 64) (n := 10) (cs := [.bool false, .bool b0, .bool b1, .bool b2, .int .i64 ce, .int .u64 cr, .int .i64 ce, .int .u64 cr, .int .i64 0, .int .u64 0]) (by kernel_rfl) rfl rfl (by simp [Value.oneCell']) HO.out.at_
      replace hbd := hide (hbd.out.trans (ha6.old _ hbd.out.size HG.out))
      refine wpAnyH_ready (rs := [9]) (by kernel_rfl) (by simp) ?_
      refine AllReadyH.cons (o := _) rfl (fun K hK => ?_) AllReadyH.nil
      refine step_store_at 64 (.tmp 13) (.tmp 21) rfl rfl _ _ rfl rfl w6 hrun ?_
      refine hK.out _ _ (hcs.out _ hbd.out) (fun hHeld => ?_)
      clear hK K
      refine wpAnyH_done (by kernel_rfl) ?_ _
      refine NoPanic.normal ?_
      go_wp2
      go_meet
      exact ⟨_, rfl, hide ⟨HG.out, OAt.of ho6, hbd.out⟩⟩
  case rest =>
    obtain ⟨g, rfl, hc⟩ := hcut
    obtain ⟨hg, ho, hb⟩ := hc.out
    clear hc
    have hsz1 := hsz.out
    have n0 : ¬ w.heap.size = g := by omega
    have n1 : ¬ w.heap.size + 1 = g := by omega
    have n2 : ¬ w.heap.size + 1 + 1 = g := by omega
    have n3 : ¬ w.heap.size + 1 + 1 + 1 = g := by omega
    have m0 : ¬ g = w.heap.size := by omega
    have m1 : ¬ g = w.heap.size + 1 := by omega
    have m2 : ¬ g = w.heap.size + 1 + 1 := by omega
    have m3 : ¬ g = w.heap.size + 1 + 1 + 1 := by omega
    clear hsz1
    replace HS := hide (HS.out.below hb)
    replace HA := hide (HA.out.below hb)
    replace HB := hide (HB.out.below hb)
    replace HR := hide (HR.out.below hb)
    replace HN := hide (HN.out.trans (hb.mono HN.out.size))
    have HG := hide ho
    have hgg := hide hg
    clear hw4 hg ho hb
    -- WAYS
    cases before <;> cases now
    · have s0 := HS.out.cell 0
      have s1 := HS.out.cell 1
      have s2 := HS.out.cell 2
      have s3 := HS.out.cell 3
      have s4 := HS.out.cell 4
      have s5 := HS.out.cell 5
      have s6 := HS.out.cell 6
      have s7 := HS.out.cell 7
      have s8 := HS.out.cell 8
      have s9 := HS.out.cell 9
      have g0 := HG.out.cell 0
      have g1 := HG.out.cell 1
      have g2 := HG.out.cell 2
      have g3 := HG.out.cell 3
      have g4 := HG.out.cell 4
      have g5 := HG.out.cell 5
      have g6 := HG.out.cell 6
      have g7 := HG.out.cell 7
      have g8 := HG.out.cell 8
      have g9 := HG.out.cell 9
      have fz : ∀ i, wc.frozen? ⟨g, i, none⟩ = false := fun i => by unfold World.frozen?; rw [HG.out.at_]; simp
      simp only [List.getElem?_toArray, List.getElem?_cons_zero, List.getElem?_cons_succ] at s0 s1 s2 s3 s4 s5 s6 s7 s8 s9 g0 g1 g2 g3 g4 g5 g6 g7 g8 g9
      go_wp2_with fail
      refine (final_any _ _ _ _ _ _ _ _ _ _ _ _ _ _ _ _).mono ?_
      rintro x w7 ⟨rfl, hbel⟩
      replace HG := hide (HG.out.below hbel)
      replace HR := hide (HR.out.below hbel)
      replace HN := hide (HN.out.trans (hbel.mono HN.out.size))
      clear hbel fz s0 s1 s2 s3 s4 s5 s6 s7 s8 s9 g0 g1 g2 g3 g4 g5 g6 g7 g8 g9
      replace HR := hide ((HR.out.set_ne n3 8 (.int .i64 (finI false b0 b1 b2 pe ce e pe ce fe))).set_ne n3 9 (.int .u64 (finI false b0 b1 b2 pe ce e pr cr fr)))
      obtain ⟨w9, hrun, ho9, ha9⟩ := store_obj (P := Try.prog) (ty := 64) (n := 10) (cs := [.bool false, .bool b0, .bool b1, .bool b2, .int .i64 ce, .int .u64 cr, .int .i64 ce, .int .u64 cr, .int .i64 (finI false b0 b1 b2 pe ce e pe ce fe), .int .u64 (finI false b0 b1 b2 pe ce e pr cr fr)]) (by kernel_rfl) rfl rfl (by simp [Value.oneCell']) HR.out.at_
      have HW := hide hrun
      have HO9 := hide ho9
      have HA9 := hide ha9
      clear hrun ho9 ha9
      have g0 := HG.out.cell 0
      have g1 := HG.out.cell 1
      have g2 := HG.out.cell 2
      have g3 := HG.out.cell 3
      have g4 := HG.out.cell 4
      have g5 := HG.out.cell 5
      have g6 := HG.out.cell 6
      have g7 := HG.out.cell 7
      have g8 := HG.out.cell 8
      have g9 := HG.out.cell 9
      have fz : ∀ i, w7.frozen? ⟨g, i, none⟩ = false := fun i => by unfold World.frozen?; rw [HG.out.at_]; simp
      simp at g0 g1 g2 g3 g4 g5 g6 g7 g8 g9
      go_wp2_with (refine wpList_store_at 64 (.tmp 12) (.tmp 38) rfl rfl _ _ rfl rfl w9 HW.out ?_)
      refine ret_struct rfl rfl HO9.out Try.underlying64 (by kernel_rfl) rfl ⟨rfl, ?_⟩
      have hw := hsz.out
      have hk := hgg.out
      have h7 := HN.out.size
      exact ((HN.out.setCell (show w.heap.size ≤ g by omega) _).setCell (show w.heap.size ≤ g by omega) _).trans (HA9.out.old _ (by simp; omega) (by omega))
    · have d0 := HB.out.cell 0
      have d1 := HB.out.cell 1
      have s0 := HS.out.cell 0
      have s1 := HS.out.cell 1
      have s2 := HS.out.cell 2
      have s3 := HS.out.cell 3
      have s4 := HS.out.cell 4
      have s5 := HS.out.cell 5
      have s6 := HS.out.cell 6
      have s7 := HS.out.cell 7
      have s8 := HS.out.cell 8
      have s9 := HS.out.cell 9
      have g0 := HG.out.cell 0
      have g1 := HG.out.cell 1
      have g2 := HG.out.cell 2
      have g3 := HG.out.cell 3
      have g4 := HG.out.cell 4
      have g5 := HG.out.cell 5
      have g6 := HG.out.cell 6
      have g7 := HG.out.cell 7
      have g8 := HG.out.cell 8
      have g9 := HG.out.cell 9
      have fz : ∀ i, wc.frozen? ⟨g, i, none⟩ = false := fun i => by unfold World.frozen?; rw [HG.out.at_]; simp
      simp only [List.getElem?_toArray, List.getElem?_cons_zero, List.getElem?_cons_succ] at d0 d1 s0 s1 s2 s3 s4 s5 s6 s7 s8 s9 g0 g1 g2 g3 g4 g5 g6 g7 g8 g9
      go_wp2_with fail
      refine (final_any _ _ _ _ _ _ _ _ _ _ _ _ _ _ _ _).mono ?_
      rintro x w7 ⟨rfl, hbel⟩
      replace HG := hide (HG.out.set 6 (.int .i64 e2))
      replace HR := hide (HR.out.set_ne n3 6 (.int .i64 e2))
      replace HN := hide (HN.out.setCell (p := ⟨g, 6, none⟩) (show w.heap.size ≤ g by have := hsz.out; have := hgg.out; omega) (.int .i64 e2))
      replace HG := hide (HG.out.set 7 (.int .u64 r2))
      replace HR := hide (HR.out.set_ne n3 7 (.int .u64 r2))
      replace HN := hide (HN.out.setCell (p := ⟨g, 7, none⟩) (show w.heap.size ≤ g by have := hsz.out; have := hgg.out; omega) (.int .u64 r2))
      replace HG := hide (HG.out.set 0 (.bool true))
      replace HR := hide (HR.out.set_ne n3 0 (.bool true))
      replace HN := hide (HN.out.setCell (p := ⟨g, 0, none⟩) (show w.heap.size ≤ g by have := hsz.out; have := hgg.out; omega) (.bool true))
      replace HG := hide (HG.out.below hbel)
      replace HR := hide (HR.out.below hbel)
      replace HN := hide (HN.out.trans (hbel.mono HN.out.size))
      clear hbel fz d0 d1 s0 s1 s2 s3 s4 s5 s6 s7 s8 s9 g0 g1 g2 g3 g4 g5 g6 g7 g8 g9
      replace HR := hide ((HR.out.set_ne n3 8 (.int .i64 (finI true b0 b1 b2 pe ce e pe ce fe))).set_ne n3 9 (.int .u64 (finI true b0 b1 b2 pe ce e pr cr fr)))
      obtain ⟨w9, hrun, ho9, ha9⟩ := store_obj (P := Try.prog) (ty := 64) (n := 10) (cs := [.bool true, .bool b0, .bool b1, .bool b2, .int .i64 ce, .int .u64 cr, .int .i64 e2, .int .u64 r2, .int .i64 (finI true b0 b1 b2 pe ce e pe ce fe), .int .u64 (finI true b0 b1 b2 pe ce e pr cr fr)]) (by kernel_rfl) rfl rfl (by simp [Value.oneCell']) HR.out.at_
      have HW := hide hrun
      have HO9 := hide ho9
      have HA9 := hide ha9
      clear hrun ho9 ha9
      have g0 := HG.out.cell 0
      have g1 := HG.out.cell 1
      have g2 := HG.out.cell 2
      have g3 := HG.out.cell 3
      have g4 := HG.out.cell 4
      have g5 := HG.out.cell 5
      have g6 := HG.out.cell 6
      have g7 := HG.out.cell 7
      have g8 := HG.out.cell 8
      have g9 := HG.out.cell 9
      have fz : ∀ i, w7.frozen? ⟨g, i, none⟩ = false := fun i => by unfold World.frozen?; rw [HG.out.at_]; simp
      simp [Array.setIfInBounds] at g0 g1 g2 g3 g4 g5 g6 g7 g8 g9
      go_wp2_with (refine wpList_store_at 64 (.tmp 12) (.tmp 38) rfl rfl _ _ rfl rfl w9 HW.out ?_)
      refine ret_struct rfl rfl HO9.out Try.underlying64 (by kernel_rfl) rfl ⟨rfl, ?_⟩
      have hw := hsz.out
      have hk := hgg.out
      have h7 := HN.out.size
      exact ((HN.out.setCell (show w.heap.size ≤ g by omega) _).setCell (show w.heap.size ≤ g by omega) _).trans (HA9.out.old _ (by simp; omega) (by omega))
    · have a0 := HA.out.cell 0
      have a1 := HA.out.cell 1
      have s0 := HS.out.cell 0
      have s1 := HS.out.cell 1
      have s2 := HS.out.cell 2
      have s3 := HS.out.cell 3
      have s4 := HS.out.cell 4
      have s5 := HS.out.cell 5
      have s6 := HS.out.cell 6
      have s7 := HS.out.cell 7
      have s8 := HS.out.cell 8
      have s9 := HS.out.cell 9
      have g0 := HG.out.cell 0
      have g1 := HG.out.cell 1
      have g2 := HG.out.cell 2
      have g3 := HG.out.cell 3
      have g4 := HG.out.cell 4
      have g5 := HG.out.cell 5
      have g6 := HG.out.cell 6
      have g7 := HG.out.cell 7
      have g8 := HG.out.cell 8
      have g9 := HG.out.cell 9
      have fz : ∀ i, wc.frozen? ⟨g, i, none⟩ = false := fun i => by unfold World.frozen?; rw [HG.out.at_]; simp
      simp only [List.getElem?_toArray, List.getElem?_cons_zero, List.getElem?_cons_succ] at a0 a1 s0 s1 s2 s3 s4 s5 s6 s7 s8 s9 g0 g1 g2 g3 g4 g5 g6 g7 g8 g9
      go_wp2_with fail
      refine (final_any _ _ _ _ _ _ _ _ _ _ _ _ _ _ _ _).mono ?_
      rintro x w7 ⟨rfl, hbel⟩
      replace HG := hide (HG.out.set 6 (.int .i64 e1))
      replace HR := hide (HR.out.set_ne n3 6 (.int .i64 e1))
      replace HN := hide (HN.out.setCell (p := ⟨g, 6, none⟩) (show w.heap.size ≤ g by have := hsz.out; have := hgg.out; omega) (.int .i64 e1))
      replace HG := hide (HG.out.set 7 (.int .u64 r1))
      replace HR := hide (HR.out.set_ne n3 7 (.int .u64 r1))
      replace HN := hide (HN.out.setCell (p := ⟨g, 7, none⟩) (show w.heap.size ≤ g by have := hsz.out; have := hgg.out; omega) (.int .u64 r1))
      replace HG := hide (HG.out.set 1 (.bool true))
      replace HR := hide (HR.out.set_ne n3 1 (.bool true))
      replace HN := hide (HN.out.setCell (p := ⟨g, 1, none⟩) (show w.heap.size ≤ g by have := hsz.out; have := hgg.out; omega) (.bool true))
      replace HG := hide (HG.out.below hbel)
      replace HR := hide (HR.out.below hbel)
      replace HN := hide (HN.out.trans (hbel.mono HN.out.size))
      clear hbel fz a0 a1 s0 s1 s2 s3 s4 s5 s6 s7 s8 s9 g0 g1 g2 g3 g4 g5 g6 g7 g8 g9
      replace HR := hide ((HR.out.set_ne n3 8 (.int .i64 (finI false true b1 b2 pe ce e pe ce fe))).set_ne n3 9 (.int .u64 (finI false true b1 b2 pe ce e pr cr fr)))
      obtain ⟨w9, hrun, ho9, ha9⟩ := store_obj (P := Try.prog) (ty := 64) (n := 10) (cs := [.bool false, .bool true, .bool b1, .bool b2, .int .i64 ce, .int .u64 cr, .int .i64 e1, .int .u64 r1, .int .i64 (finI false true b1 b2 pe ce e pe ce fe), .int .u64 (finI false true b1 b2 pe ce e pr cr fr)]) (by kernel_rfl) rfl rfl (by simp [Value.oneCell']) HR.out.at_
      have HW := hide hrun
      have HO9 := hide ho9
      have HA9 := hide ha9
      clear hrun ho9 ha9
      have g0 := HG.out.cell 0
      have g1 := HG.out.cell 1
      have g2 := HG.out.cell 2
      have g3 := HG.out.cell 3
      have g4 := HG.out.cell 4
      have g5 := HG.out.cell 5
      have g6 := HG.out.cell 6
      have g7 := HG.out.cell 7
      have g8 := HG.out.cell 8
      have g9 := HG.out.cell 9
      have fz : ∀ i, w7.frozen? ⟨g, i, none⟩ = false := fun i => by unfold World.frozen?; rw [HG.out.at_]; simp
      simp [Array.setIfInBounds] at g0 g1 g2 g3 g4 g5 g6 g7 g8 g9
      go_wp2_with (refine wpList_store_at 64 (.tmp 12) (.tmp 38) rfl rfl _ _ rfl rfl w9 HW.out ?_)
      refine ret_struct rfl rfl HO9.out Try.underlying64 (by kernel_rfl) rfl ⟨rfl, ?_⟩
      have hw := hsz.out
      have hk := hgg.out
      have h7 := HN.out.size
      exact ((HN.out.setCell (show w.heap.size ≤ g by omega) _).setCell (show w.heap.size ≤ g by omega) _).trans (HA9.out.old _ (by simp; omega) (by omega))
    · have a0 := HA.out.cell 0
      have a1 := HA.out.cell 1
      have d0 := HB.out.cell 0
      have d1 := HB.out.cell 1
      have s0 := HS.out.cell 0
      have s1 := HS.out.cell 1
      have s2 := HS.out.cell 2
      have s3 := HS.out.cell 3
      have s4 := HS.out.cell 4
      have s5 := HS.out.cell 5
      have s6 := HS.out.cell 6
      have s7 := HS.out.cell 7
      have s8 := HS.out.cell 8
      have s9 := HS.out.cell 9
      have g0 := HG.out.cell 0
      have g1 := HG.out.cell 1
      have g2 := HG.out.cell 2
      have g3 := HG.out.cell 3
      have g4 := HG.out.cell 4
      have g5 := HG.out.cell 5
      have g6 := HG.out.cell 6
      have g7 := HG.out.cell 7
      have g8 := HG.out.cell 8
      have g9 := HG.out.cell 9
      have fz : ∀ i, wc.frozen? ⟨g, i, none⟩ = false := fun i => by unfold World.frozen?; rw [HG.out.at_]; simp
      simp only [List.getElem?_toArray, List.getElem?_cons_zero, List.getElem?_cons_succ] at a0 a1 d0 d1 s0 s1 s2 s3 s4 s5 s6 s7 s8 s9 g0 g1 g2 g3 g4 g5 g6 g7 g8 g9
      go_wp2_with fail
      refine (final_any _ _ _ _ _ _ _ _ _ _ _ _ _ _ _ _).mono ?_
      rintro x w7 ⟨rfl, hbel⟩
      replace HG := hide (HG.out.set 6 (.int .i64 e1))
      replace HR := hide (HR.out.set_ne n3 6 (.int .i64 e1))
      replace HN := hide (HN.out.setCell (p := ⟨g, 6, none⟩) (show w.heap.size ≤ g by have := hsz.out; have := hgg.out; omega) (.int .i64 e1))
      replace HG := hide (HG.out.set 7 (.int .u64 r1))
      replace HR := hide (HR.out.set_ne n3 7 (.int .u64 r1))
      replace HN := hide (HN.out.setCell (p := ⟨g, 7, none⟩) (show w.heap.size ≤ g by have := hsz.out; have := hgg.out; omega) (.int .u64 r1))
      replace HG := hide (HG.out.set 1 (.bool true))
      replace HR := hide (HR.out.set_ne n3 1 (.bool true))
      replace HN := hide (HN.out.setCell (p := ⟨g, 1, none⟩) (show w.heap.size ≤ g by have := hsz.out; have := hgg.out; omega) (.bool true))
      replace HG := hide (HG.out.set 6 (.int .i64 e2))
      replace HR := hide (HR.out.set_ne n3 6 (.int .i64 e2))
      replace HN := hide (HN.out.setCell (p := ⟨g, 6, none⟩) (show w.heap.size ≤ g by have := hsz.out; have := hgg.out; omega) (.int .i64 e2))
      replace HG := hide (HG.out.set 7 (.int .u64 r2))
      replace HR := hide (HR.out.set_ne n3 7 (.int .u64 r2))
      replace HN := hide (HN.out.setCell (p := ⟨g, 7, none⟩) (show w.heap.size ≤ g by have := hsz.out; have := hgg.out; omega) (.int .u64 r2))
      replace HG := hide (HG.out.set 0 (.bool true))
      replace HR := hide (HR.out.set_ne n3 0 (.bool true))
      replace HN := hide (HN.out.setCell (p := ⟨g, 0, none⟩) (show w.heap.size ≤ g by have := hsz.out; have := hgg.out; omega) (.bool true))
      replace HG := hide (HG.out.below hbel)
      replace HR := hide (HR.out.below hbel)
      replace HN := hide (HN.out.trans (hbel.mono HN.out.size))
      clear hbel fz a0 a1 d0 d1 s0 s1 s2 s3 s4 s5 s6 s7 s8 s9 g0 g1 g2 g3 g4 g5 g6 g7 g8 g9
      replace HR := hide ((HR.out.set_ne n3 8 (.int .i64 (finI true true b1 b2 pe ce e pe ce fe))).set_ne n3 9 (.int .u64 (finI true true b1 b2 pe ce e pr cr fr)))
      obtain ⟨w9, hrun, ho9, ha9⟩ := store_obj (P := Try.prog) (ty := 64) (n := 10) (cs := [.bool true, .bool true, .bool b1, .bool b2, .int .i64 ce, .int .u64 cr, .int .i64 e2, .int .u64 r2, .int .i64 (finI true true b1 b2 pe ce e pe ce fe), .int .u64 (finI true true b1 b2 pe ce e pr cr fr)]) (by kernel_rfl) rfl rfl (by simp [Value.oneCell']) HR.out.at_
      have HW := hide hrun
      have HO9 := hide ho9
      have HA9 := hide ha9
      clear hrun ho9 ha9
      have g0 := HG.out.cell 0
      have g1 := HG.out.cell 1
      have g2 := HG.out.cell 2
      have g3 := HG.out.cell 3
      have g4 := HG.out.cell 4
      have g5 := HG.out.cell 5
      have g6 := HG.out.cell 6
      have g7 := HG.out.cell 7
      have g8 := HG.out.cell 8
      have g9 := HG.out.cell 9
      have fz : ∀ i, w7.frozen? ⟨g, i, none⟩ = false := fun i => by unfold World.frozen?; rw [HG.out.at_]; simp
      simp [Array.setIfInBounds] at g0 g1 g2 g3 g4 g5 g6 g7 g8 g9
      go_wp2_with (refine wpList_store_at 64 (.tmp 12) (.tmp 38) rfl rfl _ _ rfl rfl w9 HW.out ?_)
      refine ret_struct rfl rfl HO9.out Try.underlying64 (by kernel_rfl) rfl ⟨rfl, ?_⟩
      have hw := hsz.out
      have hk := hgg.out
      have h7 := HN.out.size
      exact ((HN.out.setCell (show w.heap.size ≤ g by omega) _).setCell (show w.heap.size ≤ g by omega) _).trans (HA9.out.old _ (by simp; omega) (by omega))
end Go.Proofs.Ytphahkjjmomjcaa

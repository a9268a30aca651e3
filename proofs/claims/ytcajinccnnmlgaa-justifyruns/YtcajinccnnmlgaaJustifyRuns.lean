/-
  epoch by epoch what is justified and final never goes back, and what is final was justified (JustifyRuns is true of every input).
-/
import Derived.Test.YtcajinccnnmlgaaRows

import Derived.WalkKit

import Derived.Below

import Derived.ProofKit

import Derived.OpenShut

import Derived.ShutString

import Derived.ChangeOld

import Derived.Test.YtcajinccnnmlgaaShapes

import Derived.Test.YtcajinccnnmlgaaJMath

import Derived.Test.YtcajinccnnmlgaaJMap

import Derived.Test.YtcajinccnnmlgaaHand

import Derived.Test.YtcajinccnnmlgaaShapes

namespace Go.Proofs.Ytcajinccnnmlgaa.justifyRuns

open Go.ChangeShapes Go.WideShapes Go.ChangeAt Go.RowKit

set_option linter.unusedVariables false

theorem own : ownKnob Try.prog.godebug = none := by kernel_rfl
theorem laidOut : laidOutB Try.prog = true := by kernel_rfl
theorem cells4 : Try.prog.cellsOf 4 = 1 := by kernel_rfl
theorem cells31 : Try.prog.cellsOf 31 = 1 := by kernel_rfl
theorem has4 : Sh.Has Try.prog .bool (.inl 4) := Try.underlying4
theorem has31 : Sh.Has Try.prog (.slice .bool) (.inl 31) := Sh.has_slice Try.underlying31 (by kernel_rfl) (by decide) has4
theorem rowB {w : World} {a : Option Addr} {l c : Nat} {e : Sh.Val (.slice .bool)} (h : Sh.In (.slice .bool) w [.slice a l c] e) (hl : 0 < l) :
    ∃ b off, a = some ⟨b, off, none⟩ ∧ b < w.heap.size ∧ ∀ k, k < l → ∃ v, w.cell? ⟨b, off + k, none⟩ = some (.bool v) := by
  obtain ⟨ao, n, c', e', h⟩ := h
  simp at e'
  obtain ⟨rfl, rfl, rfl⟩ := e'
  obtain ⟨b, off, cs, ha, hlt, hcl, hcc, hv⟩ := h.row 0 (by rw [h.len]; exact hl)
  refine ⟨b, off, ha, hlt, fun k hk => ?_⟩
  obtain ⟨b2, off2, cs2, ha2, hlt2, hcl2, hcc2, hv2⟩ := h.row k (by rw [h.len]; exact hk)
  rw [ha] at ha2
  cases ha2
  have h0 := hcc2 0 (by decide)
  rw [show cs2 = [_] from hv2] at h0
  exact ⟨_, by simpa [Sh.size] using h0⟩

set_option maxHeartbeats 10000000 in
set_option maxRecDepth 100000 in
theorem walk (a0 : Option Addr) (len0 cap0 : Nat) (e0 : Sh.Val (.slice .bool)) (a1 : Option Addr) (len1 cap1 : Nat) (e1 : Sh.Val (.slice .bool)) (w : World) (w0 : Sh.In (.slice .bool) w [.slice a0 len0 cap0] e0) (w1 : Sh.In (.slice .bool) w [.slice a1 len1 cap1] e1) :
    Calls Try.prog 4 #[.slice a0 len0 cap0, .slice a1 len1 cap1] w fun e w' => e = .returned (.bool true) ∧ Below w.heap.size w w' := by
  have W0 := hide w0
  have W1 := hide w1
  clear w0 w1
  have hmm := @run_makeMap Try.prog
  go_enter Try.func4, Try.ntmps4
  go_wp2_with fail
  refine (awake_any _).mono ?_
  rintro e w2 ⟨rfl, hbel⟩
  have HN := hide hbel
  have hgn := hide hbel.size
  clear hbel
  have HV := hide ((OAt.new w2 (.cells (scells false false false false 0 0 0 0 0 0) 27)).alloc (.map #[] 0))
  have HM := hide (MapT.new (w2.alloc (.cells (scells false false false false 0 0 0 0 0 0) 27)))
  replace HN := hide (HN.out.alloc HN.out.size (.cells (scells false false false false 0 0 0 0 0 0) 27))
  replace HN := hide (HN.out.alloc HN.out.size (.map #[] 0))
  simp only [World.size_alloc] at HM
  obtain ⟨w3, hrun0, hm0, ha0⟩ := HM.out.put 0 (by omega) (by unfold maxLen; omega)
  have HT := hide (Tr.same HM.out.isMap 0)
  replace HM := hide hm0
  replace HV := hide (HV.out.apart ha0 (by omega))
  replace HN := hide (HN.out.trans (ha0.old _ HN.out.size (by have := hgn.out; omega)))
  clear hm0 ha0
  go_wp2
  clear hrun0 hmm
  generalize hg : w2.heap.size = g at HV HM hgn ⊢
  clear hg
  replace hgn := hgn.out
  obtain ⟨m, hm⟩ : ∃ x, g + 1 = x := ⟨_, rfl⟩
  rw [hm] at HM ⊢
  have hgm : ¬ g = m := by omega
  have hmg : ¬ m = g := by omega
  have hmn : w.heap.size ≤ m := by omega
  clear hm
  go_loopw [7] (fun i wr => ∃ (j n : Nat) (x : Int) (b0 b1 b2 b3 : Bool) (pe pr ce cr fe fr : Int) (D : DataW Unit), j ≤ 59 ∧ i = .int .i64 x ∧ Hid (x = (j : Int) + 1 ∧ 0 ≤ fe ∧ fe ≤ pe ∧ pe ≤ ce ∧ ce ≤ (j : Int) ∧ n ≤ 1 + 2 * j) ∧ Hid (Tr D fe ∧ Tr D pe ∧ Tr D ce ∧ OAt wr g (.cells (scells b0 b1 b2 b3 pe pr ce cr fe fr) 27) ∧ MapT wr m n D ∧ Below w.heap.size w wr)) (fun i _ => (60 - intOf i).toNat)
  case atStart => exact ⟨0, 1, 1, false, false, false, false, 0, 0, 0, 0, 0, 0, _, by omega, rfl, hide (by simp), hide ⟨HT.out, HT.out, HT.out, HV.out, HM.out, HN.out⟩⟩
  case round =>
    clear HV HM HN HT
    obtain ⟨j, n, x, b0, b1, b2, b3, pe, pr, ce, cr, fe, fr, D, hj, rfl, hA, hI⟩ := hrel
    obtain ⟨hx, hf0, hfp, hpc, hcj, hn⟩ := hA.out
    have HV := hide hI.out.2.2.2.1
    have HM := hide hI.out.2.2.2.2.1
    have HN := hide hI.out.2.2.2.2.2
    have T1 := hide hI.out.1
    have T2 := hide hI.out.2.1
    have T3 := hide hI.out.2.2.1
    clear hI hA
    by_cases h1 : x < 60
    rotate_left
    · go_wp2
      go_ret
      exact ⟨rfl, HN.out⟩
    by_cases h2 : x ≤ (len0 : Int)
    rotate_left
    · go_wp2
      go_ret
      exact ⟨rfl, HN.out⟩
    by_cases h3 : x ≤ (len1 : Int)
    rotate_left
    · go_wp2
      go_ret
      exact ⟨rfl, HN.out⟩
    obtain ⟨pb, po, rfl, hpb, hp⟩ := rowB W0.out (by omega)
    obtain ⟨qb, qo, rfl, hqb, hq⟩ := rowB W1.out (by omega)
    obtain ⟨B, hB⟩ := hp j (by omega)
    obtain ⟨N, hNN⟩ := hq j (by omega)
    clear hp hq W0 W1
    have hcs : Hid (∀ w', Below wr.heap.size wr w' → w'.cell? ⟨g, 0, none⟩ = some (.bool b0) ∧ w'.cell? ⟨g, 1, none⟩ = some (.bool b1) ∧ w'.cell? ⟨g, 2, none⟩ = some (.bool b2) ∧ w'.cell? ⟨g, 3, none⟩ = some (.bool b3) ∧ w'.cell? ⟨g, 4, none⟩ = some (.int .i64 pe) ∧ w'.cell? ⟨g, 5, none⟩ = some (.int .u64 pr) ∧ w'.cell? ⟨g, 6, none⟩ = some (.int .i64 ce) ∧ w'.cell? ⟨g, 7, none⟩ = some (.int .u64 cr) ∧ w'.cell? ⟨g, 8, none⟩ = some (.int .i64 fe) ∧ w'.cell? ⟨g, 9, none⟩ = some (.int .u64 fr) ∧ w'.cell? ⟨pb, po + j, none⟩ = some (.bool B) ∧ w'.cell? ⟨qb, qo + j, none⟩ = some (.bool N)) := fun w' h =>
      have V := HV.out.below h
      have K := HN.out.trans (h.mono HN.out.size)
      ⟨V.cell 0, V.cell 1, V.cell 2, V.cell 3, V.cell 4, V.cell 5, V.cell 6, V.cell 7, V.cell 8, V.cell 9, (K.cell (p := ⟨pb, po + j, none⟩) hpb).trans hB, (K.cell (p := ⟨qb, qo + j, none⟩) hqb).trans hNN⟩
    clear hB hNN
    have hj0 : j < len0 := by omega
    have hj1 : j < len1 := by omega
    have hxw : wrap64 (x - 1) = (j : Int) := by unfold wrap64; omega
    have hxi : IntKind.i64.wrap (x - 1) = (j : Int) := by rw [IntKind.wrap_i64]; omega
    have hbx : Hid (1 ≤ x ∧ x ≤ 60) := hide (by omega)
    obtain ⟨B1, hB1⟩ : ∃ y, Hid (bit1 b0 B = y) := ⟨_, rfl⟩
    obtain ⟨C, hC⟩ : ∃ y, Hid (curI B N ce (j : Int) x = y) := ⟨_, rfl⟩
    obtain ⟨RC, hRC⟩ : ∃ y, Hid (curI B N cr 5 5 = y) := ⟨_, rfl⟩
    obtain ⟨F, hF⟩ : ∃ y, Hid (finI N B1 b1 b2 pe ce x pe ce fe = y) := ⟨_, rfl⟩
    obtain ⟨RF, hRF⟩ : ∃ y, Hid (finI N B1 b1 b2 pe ce x pr cr fr = y) := ⟨_, rfl⟩
    have HE : Hid (nextC b0 b1 b2 pe pr ce cr fe fr x B N (j : Int) 5 x 5 = scells N B1 b1 b2 ce cr C RC F RF) := by
      show nextC _ _ _ _ _ _ _ _ _ _ _ _ _ _ _ _ = _
      rw [nextC, hB1.out, hC.out, hRC.out, hF.out, hRF.out]
    have hFF : F = ce ∨ F = pe ∨ F = fe := by rw [← hF.out]; exact finI_of _ _ _ _ _ _ _ _ _ _
    have TF : Hid (Tr D F) := by
      rcases hFF with e | e | e
      · rw [e]; exact T3
      · rw [e]; exact T2
      · rw [e]; exact T1
    have hFb : fe ≤ F ∧ F ≤ ce := by omega
    have hCb : Hid (ce ≤ C ∧ C ≤ (j : Int) + 1) := by
      show ce ≤ C ∧ C ≤ (j : Int) + 1
      rw [← hC.out]
      cases B <;> cases N <;> simp only [curI, cond_true, cond_false] <;> omega
    have HX := hide (show x = (j : Int) + 1 ∧ 0 ≤ fe ∧ fe ≤ F ∧ F ≤ ce ∧ ce ≤ (j : Int) ∧ n ≤ 1 + 2 * j ∧ x < 60 from by omega)
    clear hx hf0 hfp hpc hcj hn hFF hFb
    go_upto_region 8 with fail
    clear h1 h2 h3
    go_cut [8] from 14 to 97 (fun y wx => ∃ h, y = Value.pointer (some ⟨h, 0, none⟩) ∧ Hid (wr.heap.size ≤ h ∧ OAt wx h (.cells (scells N B1 b1 b2 ce cr C RC F RF) 27) ∧ Below wr.heap.size wr wx))
    case first =>
      have hbd : Hid (Below wr.heap.size wr wr.drew) := hide (Below.refl _ _).drew
      refine wp_region_noPanic ?_
      refine wp_region_held_drew (S := fun w' => w'.cell? ⟨g, 0, none⟩ = some (.bool b0) ∧ w'.cell? ⟨g, 1, none⟩ = some (.bool b1) ∧ w'.cell? ⟨g, 2, none⟩ = some (.bool b2) ∧ w'.cell? ⟨g, 3, none⟩ = some (.bool b3) ∧ w'.cell? ⟨g, 4, none⟩ = some (.int .i64 pe) ∧ w'.cell? ⟨g, 5, none⟩ = some (.int .u64 pr) ∧ w'.cell? ⟨g, 6, none⟩ = some (.int .i64 ce) ∧ w'.cell? ⟨g, 7, none⟩ = some (.int .u64 cr) ∧ w'.cell? ⟨g, 8, none⟩ = some (.int .i64 fe) ∧ w'.cell? ⟨g, 9, none⟩ = some (.int .u64 fr) ∧ w'.cell? ⟨pb, po + j, none⟩ = some (.bool B) ∧ w'.cell? ⟨qb, qo + j, none⟩ = some (.bool N)) (by kernel_rfl) (hcs.out _ hbd.out) (fun hHeld => ?_)
      refine take_set (i := 0) (v := .agg (scells b0 b1 b2 b3 pe pr ce cr fe fr)) rfl rfl (by kernel_rfl) (by kernel_rfl) (by kernel_rfl) (fun _ _ _ h => h) (Or.inl ⟨by kernel_rfl, fun w' hSw => ?_⟩) hHeld ?_
      · go_simp
      simp only [List.set_cons_succ, List.set_cons_zero]
      refine take_set (i := 1) (v := .int .i64 x) rfl rfl (by kernel_rfl) (by kernel_rfl) (by kernel_rfl) (fun _ _ _ h => h) (Or.inl ⟨by kernel_rfl, fun w' hSw => ?_⟩) hHeld ?_
      · go_simp
      simp only [List.set_cons_succ, List.set_cons_zero]
      refine take_set (i := 2) (v := .slice (some ⟨pb, po, none⟩) len0 cap0) rfl rfl (by kernel_rfl) (by kernel_rfl) (by kernel_rfl) (fun _ _ _ h => h) (Or.inl ⟨by kernel_rfl, fun w' hSw => ?_⟩) hHeld ?_
      · go_simp
      simp only [List.set_cons_succ, List.set_cons_zero]
      refine take_set (i := 3) (v := .int .i64 x) rfl rfl (by kernel_rfl) (by kernel_rfl) (by kernel_rfl) (fun _ _ _ h => h) (Or.inl ⟨by kernel_rfl, fun w' hSw => ?_⟩) hHeld ?_
      · go_simp
      simp only [List.set_cons_succ, List.set_cons_zero]
      refine take_set (i := 4) (v := .int .i64 (j : Int)) rfl rfl (by kernel_rfl) (by kernel_rfl) (by kernel_rfl) (fun _ _ _ h => h) (Or.inl ⟨by kernel_rfl, fun w' hSw => ?_⟩) hHeld ?_
      · go_simp
      simp only [List.set_cons_succ, List.set_cons_zero]
      refine take_set (i := 5) (v := .pointer (some ⟨pb, po + j, none⟩)) rfl rfl (by kernel_rfl) (by kernel_rfl) (by kernel_rfl) (fun _ _ _ h => h) (Or.inl ⟨by kernel_rfl, fun w' hSw => ?_⟩) hHeld ?_
      · go_simp
      simp only [List.set_cons_succ, List.set_cons_zero]
      refine take_set (i := 6) (v := .bool B) rfl rfl (by kernel_rfl) (by kernel_rfl) (by kernel_rfl) (fun _ _ _ h => h) (Or.inl ⟨by kernel_rfl, fun w' hSw => ?_⟩) hHeld ?_
      · go_simp
      simp only [List.set_cons_succ, List.set_cons_zero]
      refine take_set (i := 7) (v := .slice (some ⟨qb, qo, none⟩) len1 cap1) rfl rfl (by kernel_rfl) (by kernel_rfl) (by kernel_rfl) (fun _ _ _ h => h) (Or.inl ⟨by kernel_rfl, fun w' hSw => ?_⟩) hHeld ?_
      · go_simp
      simp only [List.set_cons_succ, List.set_cons_zero]
      refine take_set (i := 8) (v := .int .i64 x) rfl rfl (by kernel_rfl) (by kernel_rfl) (by kernel_rfl) (fun _ _ _ h => h) (Or.inl ⟨by kernel_rfl, fun w' hSw => ?_⟩) hHeld ?_
      · go_simp
      simp only [List.set_cons_succ, List.set_cons_zero]
      refine take_set (i := 9) (v := .int .i64 (j : Int)) rfl rfl (by kernel_rfl) (by kernel_rfl) (by kernel_rfl) (fun _ _ _ h => h) (Or.inl ⟨by kernel_rfl, fun w' hSw => ?_⟩) hHeld ?_
      · go_simp
      simp only [List.set_cons_succ, List.set_cons_zero]
      refine take_set (i := 10) (v := .pointer (some ⟨qb, qo + j, none⟩)) rfl rfl (by kernel_rfl) (by kernel_rfl) (by kernel_rfl) (fun _ _ _ h => h) (Or.inl ⟨by kernel_rfl, fun w' hSw => ?_⟩) hHeld ?_
      · go_simp
      simp only [List.set_cons_succ, List.set_cons_zero]
      refine take_set (i := 11) (v := .bool N) rfl rfl (by kernel_rfl) (by kernel_rfl) (by kernel_rfl) (fun _ _ _ h => h) (Or.inl ⟨by kernel_rfl, fun w' hSw => ?_⟩) hHeld ?_
      · go_simp
      simp only [List.set_cons_succ, List.set_cons_zero]
      refine take_set (i := 12) (v := .int .i64 x) rfl rfl (by kernel_rfl) (by kernel_rfl) (by kernel_rfl) (fun _ _ _ h => h) (Or.inl ⟨by kernel_rfl, fun w' hSw => ?_⟩) hHeld ?_
      · go_simp
      simp only [List.set_cons_succ, List.set_cons_zero]
      refine take_set (i := 13) (v := .int .i64 (j : Int)) rfl rfl (by kernel_rfl) (by kernel_rfl) (by kernel_rfl) (fun _ _ _ h => h) (Or.inl ⟨by kernel_rfl, fun w' hSw => ?_⟩) hHeld ?_
      · go_simp
      simp only [List.set_cons_succ, List.set_cons_zero]
      refine take_set (i := 14) (v := .agg (pcells (j : Int) 5)) rfl rfl (by kernel_rfl) (by kernel_rfl) (by kernel_rfl) (fun _ _ _ h => h) (Or.inl ⟨by kernel_rfl, fun w' hSw => ?_⟩) hHeld ?_
      · go_simp
      simp only [List.set_cons_succ, List.set_cons_zero]
      refine take_set (i := 15) (v := .int .i64 x) rfl rfl (by kernel_rfl) (by kernel_rfl) (by kernel_rfl) (fun _ _ _ h => h) (Or.inl ⟨by kernel_rfl, fun w' hSw => ?_⟩) hHeld ?_
      · go_simp
      simp only [List.set_cons_succ, List.set_cons_zero]
      refine take_set (i := 16) (v := .agg (pcells x 5)) rfl rfl (by kernel_rfl) (by kernel_rfl) (by kernel_rfl) (fun _ _ _ h => h) (Or.inl ⟨by kernel_rfl, fun w' hSw => ?_⟩) hHeld ?_
      · go_simp
      simp only [List.set_cons_succ, List.set_cons_zero]
      refine wpAnyH_ready (rs := [17, 18]) (by kernel_rfl) (by simp) ?_
      refine AllReadyH.cons (o := _) rfl (fun K hK => ?_) (AllReadyH.cons (o := _) rfl (fun K hK => ?_) AllReadyH.nil)
      · go_simp
        refine (next_any _ _ _ _ _ _ _ _ _ _ _ _ _ _ _ _ _ _).mono ?_
        rintro e w5 ⟨rfl, hbel⟩
        rw [HE.out]
        replace hbd := hide (hbd.out.trans (hbel.mono hbd.out.size))
        clear hbel
        refine hK.out _ _ (hcs.out _ hbd.out) (fun hHeld => ?_)
        clear hK K
        have HG := hide hbd.out.size
        have HO := hide (OAt.new w5 (.cells (scells false false false false 0 0 0 0 0 0) 27))
        replace hbd := hide (hbd.out.alloc hbd.out.size (.cells (scells false false false false 0 0 0 0 0 0) 27))
        refine wpAnyH_ready (rs := [18]) (by kernel_rfl) (by simp) ?_
        refine AllReadyH.cons (o := _) rfl (fun K hK => ?_) AllReadyH.nil
        go_simp
        refine hK.out _ _ (hcs.out _ hbd.out) (fun hHeld => ?_)
        clear hK K
        obtain ⟨w6, hrun, ho6, ha6⟩ := store_obj (P := Try.prog) (ty := 27) (n := 10) (cs := [.bool N, .bool B1, .bool b1, .bool b2, .int .i64 ce, .int .u64 cr, .int .i64 C, .int .u64 RC, .int .i64 F, .int .u64 RF]) (by kernel_rfl) rfl rfl (by simp [Value.oneCell']) HO.out.at_
        replace hbd := hide (hbd.out.trans (ha6.old _ hbd.out.size HG.out))
        refine wpAnyH_ready (rs := [19]) (by kernel_rfl) (by simp) ?_
        refine AllReadyH.cons (o := _) rfl (fun K hK => ?_) AllReadyH.nil
        refine step_store_at 27 (.tmp 8) (.tmp 47) rfl rfl _ _ rfl rfl w6 hrun ?_
        refine hK.out _ _ (hcs.out _ hbd.out) (fun hHeld => ?_)
        clear hK K
        refine wpAnyH_done (by kernel_rfl) ?_ _
        refine NoPanic.normal ?_
        go_wp2
        go_meet
        exact ⟨_, rfl, hide ⟨HG.out, OAt.of ho6, hbd.out⟩⟩
      · go_simp
        have HG := hide (Nat.le_refl wr.heap.size)
        have HO := hide (OAt.new wr.drew (.cells (scells false false false false 0 0 0 0 0 0) 27))
        replace hbd := hide (hbd.out.alloc hbd.out.size (.cells (scells false false false false 0 0 0 0 0 0) 27))
        refine hK.out _ _ (hcs.out _ hbd.out) (fun hHeld => ?_)
        clear hK K
        refine wpAnyH_ready (rs := [17]) (by kernel_rfl) (by simp) ?_
        refine AllReadyH.cons (o := _) rfl (fun K hK => ?_) AllReadyH.nil
        go_simp
        refine (next_any _ _ _ _ _ _ _ _ _ _ _ _ _ _ _ _ _ _).mono ?_
        rintro e w5 ⟨rfl, hbel⟩
        rw [HE.out]
        replace hbd := hide (hbd.out.trans (hbel.mono hbd.out.size))
        replace HO := hide (HO.out.below hbel)
        clear hbel
        refine hK.out _ _ (hcs.out _ hbd.out) (fun hHeld => ?_)
        clear hK K
        obtain ⟨w6, hrun, ho6, ha6⟩ := store_obj (P := Try.prog) (ty := 27) (n := 10) (cs := [.bool N, .bool B1, .bool b1, .bool b2, .int .i64 ce, .int .u64 cr, .int .i64 C, .int .u64 RC, .int .i64 F, .int .u64 RF]) (by kernel_rfl) rfl rfl (by simp [Value.oneCell']) HO.out.at_
        replace hbd := hide (hbd.out.trans (ha6.old _ hbd.out.size HG.out))
        refine wpAnyH_ready (rs := [19]) (by kernel_rfl) (by simp) ?_
        refine AllReadyH.cons (o := _) rfl (fun K hK => ?_) AllReadyH.nil
        refine step_store_at 27 (.tmp 8) (.tmp 47) rfl rfl _ _ rfl rfl w6 hrun ?_
        refine hK.out _ _ (hcs.out _ hbd.out) (fun hHeld => ?_)
        clear hK K
        refine wpAnyH_done (by kernel_rfl) ?_ _
        refine NoPanic.normal ?_
        go_wp2
        go_meet
        exact ⟨_, rfl, hide ⟨HG.out, OAt.of ho6, hbd.out⟩⟩
    case rest =>
      obtain ⟨h, rfl, hc⟩ := hcut
      obtain ⟨hh, ho, hb⟩ := hc.out
      clear hc
      have hgl := HV.out.lt
      have hml := HM.out.lt
      have hhg : ¬ h = g := by omega
      have hhm : ¬ h = m := by omega
      have hgh : ¬ g = h := by omega
      have hmh : ¬ m = h := by omega
      clear hgl hml hh
      obtain ⟨_, _, _, _, _, _, _, _, _, _, qB, qN⟩ := hcs.out _ hb
      replace HV := hide (HV.out.below hb)
      replace HM := hide (HM.out.below hb)
      replace HN := hide (HN.out.trans (hb.mono HN.out.size))
      have HH := hide ho
      clear hb ho hcs HE hB1 hRC hRF hF
      have hlook := HM.out.look F (by have := HX.out; omega) TF.out
      have v6 := HV.out.cell 6
      have v8 := HV.out.cell 8
      simp only [List.getElem?_toArray, List.getElem?_cons_zero, List.getElem?_cons_succ] at v6 v8
      have uu6 := HH.out.cell 6
      have uu8 := HH.out.cell 8
      simp only [List.getElem?_toArray, List.getElem?_cons_zero, List.getElem?_cons_succ] at uu6 uu8
      have k1 : ¬ F < fe := by have := HX.out; omega
      have k2 : ¬ C < F := by have := HX.out; have := hCb.out; omega
      have k3w : wrap64 (ce - 1) = ce - 1 := by have := HX.out; unfold wrap64; omega
      have k3 : ¬ C < ce - 1 := by have := hCb.out; omega
      go_upto_region 11 with fail
      clear hlook v6 v8 uu6 uu8 k1 k2 k3w k3
      go_upto_if 86 with fail
      go_cut [] from 14 to 97 (fun wx => ∃ (n1 : Nat) (D1 : DataW Unit), Hid (n1 ≤ n + 1) ∧ Hid (B = true → Tr D1 (j : Int)) ∧ Hid (Tr D1 F ∧ Tr D1 ce ∧ MapT wx m n1 D1 ∧ wx.cell? ⟨qb, qo + j, none⟩ = some (.bool N) ∧ OAt wx g (.cells (scells b0 b1 b2 b3 pe pr ce cr fe fr) 27) ∧ OAt wx h (.cells (scells N B1 b1 b2 ce cr C RC F RF) 27) ∧ Below w.heap.size w wx))
      case first =>
        cases hBB : B
        · go_wp2
          go_meet
          exact ⟨n, D, hide (Nat.le_succ n), hide (fun e => by rw [hBB] at e; cases e), hide ⟨TF.out, T3.out, HM.out, qN, HV.out, HH.out, HN.out⟩⟩
        · obtain ⟨wb, hrb, hmb, hab⟩ := HM.out.put (j : Int) (by have := HX.out; omega) (by have := HX.out; unfold maxLen; omega)
          have TA := hide (Tr.same HM.out.isMap (j : Int))
          have TB := hide (TF.out.put HM.out.isMap (j : Int))
          have TD := hide (T3.out.put HM.out.isMap (j : Int))
          have HM2 := hide hmb
          have HV2 := hide (HV.out.apart hab hgm)
          have HH2 := hide (HH.out.apart hab hhm)
          have qN2 := hide ((World.cell?_of_block (a := ⟨qb, qo + j, none⟩) (hab.block qb (Nat.lt_of_lt_of_le hqb HN.out.size) (by omega))).trans qN)
          have HN2 := hide (HN.out.trans (hab.old _ HN.out.size hmn))
          clear hmb hab
          go_wp2
          go_meet
          exact ⟨n + 1, _, hide (Nat.le_refl _), hide (fun _ => TA.out), hide ⟨TB.out, TD.out, HM2.out, qN2.out, HV2.out, HH2.out, HN2.out⟩⟩
      case rest =>
        obtain ⟨n1, D1, hn1, hTB, hI⟩ := hcut
        clear qN qB TF T3 HM HV HH HN
        obtain ⟨i1, i2, i3, qN, i4, i5, i6⟩ := hI.out
        have TF := hide i1
        have T3 := hide i2
        have HM := hide i3
        have HV := hide i4
        have HH := hide i5
        have HN := hide i6
        clear hI i1 i2 i3 i4 i5 i6
        go_upto_if 94 with fail
        go_cut [] from 14 to 97 (fun wx => ∃ (n2 : Nat) (D2 : DataW Unit), Hid (n2 ≤ n1 + 1) ∧ Hid (N = true → Tr D2 x) ∧ Hid (B = true → Tr D2 (j : Int)) ∧ Hid (Tr D2 F ∧ Tr D2 ce ∧ MapT wx m n2 D2 ∧ OAt wx g (.cells (scells b0 b1 b2 b3 pe pr ce cr fe fr) 27) ∧ OAt wx h (.cells (scells N B1 b1 b2 ce cr C RC F RF) 27) ∧ Below w.heap.size w wx))
        case first =>
          cases hNN : N
          · go_wp2
            go_meet
            exact ⟨n1, D1, hide (Nat.le_succ n1), hide (fun e => by rw [hNN] at e; cases e), hTB, hide ⟨TF.out, T3.out, HM.out, HV.out, HH.out, HN.out⟩⟩
          · obtain ⟨wb, hrb, hmb, hab⟩ := HM.out.put x (by have := HX.out; omega) (by have := HX.out; have := hn1.out; unfold maxLen; omega)
            have TA := hide (Tr.same HM.out.isMap x)
            have TB := hide (TF.out.put HM.out.isMap x)
            have TD := hide (T3.out.put HM.out.isMap x)
            have HM2 := hide hmb
            have HV2 := hide (HV.out.apart hab hgm)
            have HH2 := hide (HH.out.apart hab hhm)
            have HN2 := hide (HN.out.trans (hab.old _ HN.out.size hmn))
            clear hmb hab
            go_wp2
            go_meet
            exact ⟨n1 + 1, _, hide (Nat.le_refl _), hide (fun _ => TA.out), hide (fun e => (hTB.out e).put HM.out.isMap x), hide ⟨TB.out, TD.out, HM2.out, HV2.out, HH2.out, HN2.out⟩⟩
        case rest =>
          obtain ⟨n2, D2, hn2, hTN, hTB2, hI⟩ := hcut
          clear qN TF T3 HM HV HH HN hTB
          obtain ⟨i1, i2, i3, i4, i5, i6⟩ := hI.out
          have TF := hide i1
          have T3 := hide i2
          have HM := hide i3
          have HV := hide i4
          have HH := hide i5
          have HN := hide i6
          clear hI i1 i2 i3 i4 i5 i6
          have TC : Hid (Tr D2 C) := by
            show Tr D2 C
            rw [← hC.out]
            cases hNN : N
            · cases hBB : B
              · exact T3.out
              · exact hTB2.out hBB
            · exact hTN.out hNN
          obtain ⟨w6, hrun, ho6, ha6⟩ := store_obj (P := Try.prog) (ty := 27) (n := 10) (cs := [.bool N, .bool B1, .bool b1, .bool b2, .int .i64 ce, .int .u64 cr, .int .i64 C, .int .u64 RC, .int .i64 F, .int .u64 RF]) (by kernel_rfl) rfl rfl (by simp [Value.oneCell']) HV.out.at_
          have HW := hide hrun
          replace HV := hide (OAt.of ho6)
          replace HM := hide (HM.out.apart ha6 hmg)
          replace HN := hide (HN.out.trans (ha6.old _ HN.out.size hgn))
          clear hrun ho6 ha6
          have y0 := HH.out.cell 0
          have y1 := HH.out.cell 1
          have y2 := HH.out.cell 2
          have y3 := HH.out.cell 3
          have y4 := HH.out.cell 4
          have y5 := HH.out.cell 5
          have y6 := HH.out.cell 6
          have y7 := HH.out.cell 7
          have y8 := HH.out.cell 8
          have y9 := HH.out.cell 9
          simp only [List.getElem?_toArray, List.getElem?_cons_zero, List.getElem?_cons_succ] at y0 y1 y2 y3 y4 y5 y6 y7 y8 y9
          have HZ := hide (show ((x + 1 = ((j + 1 : Nat) : Int) + 1 ∧ 0 ≤ F ∧ F ≤ ce ∧ ce ≤ C ∧ C ≤ ((j + 1 : Nat) : Int) ∧ n2 ≤ 1 + 2 * (j + 1)) ∧ j + 1 ≤ 59 ∧ 1 ≤ x ∧ x < 60) from by have := HX.out; have := hCb.out; have := hn1.out; have := hn2.out; omega)
          go_wp2_with (refine wpList_store_at 27 (.tmp 5) (.tmp 97) rfl rfl _ _ rfl rfl w6 HW.out ?_)
          go_roundw
          case rel => exact ⟨j + 1, n2, x + 1, N, B1, b1, b2, ce, cr, C, RC, F, RF, D2, HZ.out.2.1, congrArg (Value.int .i64) (show wrap64 (x + 1) = x + 1 by have := HZ.out; unfold wrap64; omega), hide HZ.out.1, hide ⟨TF.out, T3.out, TC.out, HV.out, HM.out, HN.out⟩⟩
          case measure =>
            have hz := HZ.out
            have e1 : wrap64 (x + 1) = x + 1 := by unfold wrap64; omega
            simp [intOf, e1]
            omega

set_option maxRecDepth 100000 in
theorem lifted (os : Os) (started : os.Started) (H : Type) (enc : TypeId × Value → H) :
    ReturnsInHanded {} Try.checked os 4 .any (Rows.justifyRunsSpec.pre6 enc Try.prog Try.f4 Rows.justifyRunsRow.domain false) (Rows.justifyRunsSpec.post enc Try.prog Try.f4 false true false false) := by
  refine returnsInHanded_of_change (C := Try.checked) own started (by kernel_rfl) Try.func4
    (ChangeSpec.witness6 (enc := enc) (C := Try.checked) false ⟨#[], #[.slice none 0 0, .slice none 0 0], []⟩ 8 (by kernel_rfl) (by kernel_rfl) (by kernel_rfl) (by kernel_rfl)) ?_
  intro W base args ds gs before hval0 hW hcnd _
  have hval : ∀ (j : Nat) t v, Try.f4.params[j]? = some t → args[j]? = some v → Value.okWide Try.prog W .any base t v := hval0
  have hW' := hW
  obtain ⟨p, q, hA0, hV, rfl, hfz, hnd⟩ := hW
  have hA : DataW.TrodAll enc Try.prog W 0 (fun _ => true) true Try.f4.params.toList args.toList ds p := hA0
  rw [Try.params4] at hA hval
  obtain ⟨v0, vs0, d0, ds0, p0, q0, hargs, rfl, rfl, h0, r0⟩ := trodAll_cons hA
  obtain ⟨v1, vs1, d1, ds1, p1, q1, rfl, rfl, rfl, h1, r1⟩ := trodAll_cons r0
  obtain ⟨rfl, rfl, rfl⟩ := trodAll_nil r1
  obtain rfl : args = #[v0, v1] := by cases args; simp_all
  obtain ⟨rfl, rfl⟩ := trodVars_none hV
  obtain ⟨a0, len0, cap0, rfl⟩ := okWide_slice Try.underlying31 (hval 0 31 v0 rfl rfl)
  have k0 := h0
  have lt0 : ∀ x ∈ p0, x.block < W.heap.size := by obtain ⟨m, hm⟩ := k0; exact DataW.trod_lt m _ _ _ hm
  obtain ⟨fuel0, hf0⟩ := h0
  simp only [Value.cells] at hf0
  obtain ⟨e0, w0⟩ := (Sh.read _).1 _ _ _ _ has31 hf0
  obtain ⟨a1, len1, cap1, rfl⟩ := okWide_slice Try.underlying31 (hval 1 31 v1 rfl rfl)
  have k1 := h1
  have lt1 : ∀ x ∈ p1, x.block < W.heap.size := by obtain ⟨m, hm⟩ := k1; exact DataW.trod_lt m _ _ _ hm
  obtain ⟨fuel1, hf1⟩ := h1
  simp only [Value.cells] at hf1
  obtain ⟨e1, w1⟩ := (Sh.read _).1 _ _ _ _ has31 hf1
  clear hA0 hval0
  refine (walk a0 len0 cap0 e0 a1 len1 cap1 e1 W w0 w1).mono fun e W' ⟨he, bel⟩ => ?_
  subst he
  exact ⟨_, rfl, _, _, _, [], _, [], hW', trodAll_mk1 (shut_bool Try.underlying4 _), (trodAll_cons_mk (Below.trod laidOut (by kernel_rfl) (of_decide_eq_true (by kernel_rfl)) k0 bel lt0) (trodAll_cons_mk (Below.trod laidOut (by kernel_rfl) (of_decide_eq_true (by kernel_rfl)) k1 bel lt1) trodAll_mk0)), rfl, bel.frame _, fun h => by cases h⟩

theorem over : Rows.justifyRunsRow.holds Try.pinned (OpenSpec.ofChange Rows.justifyRunsSpec) :=
  OpenClaim.holds_of_wide 4 Try.f4 rfl rfl rfl rfl rfl rfl rfl ⟨rfl, rfl, rfl, rfl, rfl⟩ rfl rfl rfl rfl rfl (by kernel_rfl) Try.func4 (by kernel_rfl)
    (of_decide_eq_true (by kernel_rfl)) (by unfold Func.isWrapper; first | (rw [if_pos (by decide +kernel)]; kernel_rfl) | (rw [if_neg (by decide +kernel)]; exact ⟨rfl, rfl⟩))
    (fun os started H enc _ => lifted os started H enc)

theorem proved : Rows.JustifyRunsSaid := over
end Go.Proofs.Ytcajinccnnmlgaa.justifyRuns

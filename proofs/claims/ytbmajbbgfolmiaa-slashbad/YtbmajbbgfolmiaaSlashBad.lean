/-
  which votes may not both be is what the document says (SlashBad is true of every input).
-/
import Derived.Test.YtbmajbbgfolmiaaRows

import Derived.WalkKit

import Derived.Below

import Derived.ProofKit

import Derived.OpenShut

import Derived.ShutString

import Derived.ChangeOld

import Derived.Test.YtbmajbbgfolmiaaSBad

import Derived.Test.YtbmajbbgfolmiaaHand

import Derived.Deep.CutRange

namespace Go.Proofs.Ytbmajbbgfolmiaa.slashBad

open Go.ChangeShapes Go.WideShapes Go.ChangeAt Go.RowKit

set_option linter.unusedVariables false

theorem own : ownKnob Try.prog.godebug = none := by kernel_rfl
theorem laidOut : laidOutB Try.prog = true := by kernel_rfl
theorem cells3 : Try.prog.cellsOf 3 = 1 := by kernel_rfl
theorem cells4 : Try.prog.cellsOf 4 = 1 := by kernel_rfl
theorem cells22 : Try.prog.cellsOf 22 = 1 := by kernel_rfl
theorem cells24 : Try.prog.cellsOf 24 = 2 := by kernel_rfl
theorem cells25 : Try.prog.cellsOf 25 = 1 := by kernel_rfl
theorem cells27 : Try.prog.cellsOf 27 = 7 := by kernel_rfl
theorem list2 {α : Type _} {l : List α} (h : l.length = 2) : ∃ x0 x1, l = [x0, x1] := by
  match l, h with
  | [x0, x1], _ => exact ⟨x0, x1, rfl⟩
theorem list5 {α : Type _} {l : List α} (h : l.length = 5) : ∃ x0 x1 x2 x3 x4, l = [x0, x1, x2, x3, x4] := by
  match l, h with
  | [x0, x1, x2, x3, x4], _ => exact ⟨x0, x1, x2, x3, x4, rfl⟩
theorem list7 {α : Type _} {l : List α} (h : l.length = 7) : ∃ x0 x1 x2 x3 x4 x5 x6, l = [x0, x1, x2, x3, x4, x5, x6] := by
  match l, h with
  | [x0, x1, x2, x3, x4, x5, x6], _ => exact ⟨x0, x1, x2, x3, x4, x5, x6, rfl⟩
theorem dbl_arn {s h se sr te tr s2 h2 se2 sr2 te2 tr2 : Int} (h1 : dblB s h se sr te tr s2 h2 se2 sr2 te2 tr2 = true) (h2 : arnB se te se2 te2 = true) : False := by
  simp [dblB, arnB] at h1 h2
  omega
theorem arn_arn {se te se2 te2 : Int} (h1 : arnB se te se2 te2 = true) (h2 : arnB se2 te2 se te = true) : False := by
  simp [arnB] at h1 h2
  omega

set_option maxHeartbeats 8000000 in
set_option maxRecDepth 100000 in
theorem walk (a0_0 : Int) (a0_1 : Int) (a0_2 : Int) (a0_3 : Int) (a0_4 : Int) (a0_5 : Int) (a0_6 : Option Addr) (len0_6 cap0_6 : Nat) (z0_6 : List Int) (a1_0 : Int) (a1_1 : Int) (a1_2 : Int) (a1_3 : Int) (a1_4 : Int) (a1_5 : Int) (a1_6 : Option Addr) (len1_6 cap1_6 : Nat) (z1_6 : List Int) (w : World) (w0_0 : (Lit.int .i64 a0_0).wf = true) (w0_1 : (Lit.int .u64 a0_1).wf = true) (w0_2 : (Lit.int .i64 a0_2).wf = true) (w0_3 : (Lit.int .u64 a0_3).wf = true) (w0_4 : (Lit.int .i64 a0_4).wf = true) (w0_5 : (Lit.int .u64 a0_5).wf = true) (w0_6 : IsRow .i64 w a0_6 len0_6 cap0_6 z0_6) (w1_0 : (Lit.int .i64 a1_0).wf = true) (w1_1 : (Lit.int .u64 a1_1).wf = true) (w1_2 : (Lit.int .i64 a1_2).wf = true) (w1_3 : (Lit.int .u64 a1_3).wf = true) (w1_4 : (Lit.int .i64 a1_4).wf = true) (w1_5 : (Lit.int .u64 a1_5).wf = true) (w1_6 : IsRow .i64 w a1_6 len1_6 cap1_6 z1_6) :
    Calls Try.prog 3 #[.agg #[.int .i64 a0_0, .int .u64 a0_1, .int .i64 a0_2, .int .u64 a0_3, .int .i64 a0_4, .int .u64 a0_5, .slice a0_6 len0_6 cap0_6], .agg #[.int .i64 a1_0, .int .u64 a1_1, .int .i64 a1_2, .int .u64 a1_3, .int .i64 a1_4, .int .u64 a1_5, .slice a1_6 len1_6 cap1_6]] w fun e w' => e = .returned (.bool true) ∧ Below w.heap.size w w' := by
  clear w0_0 w0_1 w0_2 w0_3 w0_4 w0_5 w0_6 w1_0 w1_1 w1_2 w1_3 w1_4 w1_5 w1_6
  have HA := hide (((VAt.lit w w.heap.size rfl a0_0 a0_1 a0_2 a0_3 a0_4 a0_5 a0_6 len0_6 cap0_6).alloc (vobj a1_0 a1_1 a1_2 a1_3 a1_4 a1_5 a1_6 len1_6 cap1_6)))
  have HB := hide (VAt.lit (w.alloc (vobj a0_0 a0_1 a0_2 a0_3 a0_4 a0_5 a0_6 len0_6 cap0_6)) (w.heap.size + 1) (by simp) a1_0 a1_1 a1_2 a1_3 a1_4 a1_5 a1_6 len1_6 cap1_6)
  have HN := hide (((Below.refl _ w).alloc (Nat.le_refl _) (vobj a0_0 a0_1 a0_2 a0_3 a0_4 a0_5 a0_6 len0_6 cap0_6)).alloc (by simp) (vobj a1_0 a1_1 a1_2 a1_3 a1_4 a1_5 a1_6 len1_6 cap1_6))
  go_enter Try.func3, Try.ntmps3
  go_wp2_with fail
  refine (awake_any _).mono ?_
  rintro e w1 ⟨rfl, hbel⟩
  have HA1 := hide (HA.out.below hbel)
  have HB1 := hide (HB.out.below hbel)
  have HN1 := hide (HN.out.trans (hbel.mono (by simp <;> omega)))
  clear HA HB HN hbel
  obtain ⟨hlt, p0, p1, p2, p3, p4, p5, p6⟩ := HA1.out
  obtain ⟨hlt2, q0, q1, q2, q3, q4, q5, q6⟩ := HB1.out
  obtain ⟨d, hd⟩ : ∃ b, Hid (dblB a0_0 a0_1 a0_2 a0_3 a0_4 a0_5 a1_0 a1_1 a1_2 a1_3 a1_4 a1_5 = b) := ⟨_, rfl⟩
  obtain ⟨ar, har⟩ : ∃ b, Hid (arnB a0_2 a0_4 a1_2 a1_4 = b) := ⟨_, rfl⟩
  obtain ⟨bk, hbk⟩ : ∃ b, Hid (arnB a1_2 a1_4 a0_2 a0_4 = b) := ⟨_, rfl⟩
  go_upto_region 3 with fail
  go_cut [5] from 8 to 116 (fun x wx => x = Value.bool d ∧ wx = w1)
  case first =>
    have hf : Hid (∀ b, b = dblB a0_0 a0_1 a0_2 a0_3 a0_4 a0_5 a1_0 a1_1 a1_2 a1_3 a1_4 a1_5 → Value.bool b = Value.bool d) := fun b h => by rw [h, hd.out]
    have hne : Hid (∀ x y : Int, ¬ x = y → (x == y) = false ∧ decide (x = y) = false ∧ (x != y) = true) := fun x y h => ⟨by simp [h], by simp [h], by simp [h]⟩
    have heq : Hid (∀ x y : Int, x = y → (x == y) = true ∧ decide (x = y) = true ∧ (x != y) = false) := fun x y h => ⟨by simp [h], by simp [h], by simp [h]⟩
    by_cases e1 : a0_4 = a1_4
    case neg =>
      obtain ⟨f1, g1, k1⟩ := hne.out _ _ e1
      have X := hide (show false = dblB a0_0 a0_1 a0_2 a0_3 a0_4 a0_5 a1_0 a1_1 a1_2 a1_3 a1_4 a1_5 by unfold dblB sameB; rw [g1]; rfl)
      clear e1
      go_wp2
      go_meet
      exact ⟨hf.out _ X.out, rfl⟩
    obtain ⟨f1, g1, k1⟩ := heq.out _ _ e1
    have E1 := hide e1
    clear e1
    by_cases e2 : a0_0 = a1_0
    case neg =>
      obtain ⟨f2, g2, k2⟩ := hne.out _ _ e2
      have X := hide (show true = dblB a0_0 a0_1 a0_2 a0_3 a0_4 a0_5 a1_0 a1_1 a1_2 a1_3 a1_4 a1_5 by unfold dblB sameB; rw [g1, Bool.true_and, decide_eq_false (fun h => e2 (by simp only [h]))]; rfl)
      clear e2
      go_wp2
      go_meet
      exact ⟨hf.out _ X.out, rfl⟩
    obtain ⟨f2, g2, k2⟩ := heq.out _ _ e2
    have E2 := hide e2
    clear e2
    by_cases e3 : a0_1 = a1_1
    case neg =>
      obtain ⟨f3, g3, k3⟩ := hne.out _ _ e3
      have X := hide (show true = dblB a0_0 a0_1 a0_2 a0_3 a0_4 a0_5 a1_0 a1_1 a1_2 a1_3 a1_4 a1_5 by unfold dblB sameB; rw [g1, Bool.true_and, decide_eq_false (fun h => e3 (by simp only [h]))]; rfl)
      clear e3
      go_wp2
      go_meet
      exact ⟨hf.out _ X.out, rfl⟩
    obtain ⟨f3, g3, k3⟩ := heq.out _ _ e3
    have E3 := hide e3
    clear e3
    by_cases e4 : a0_2 = a1_2
    case neg =>
      obtain ⟨f4, g4, k4⟩ := hne.out _ _ e4
      have X := hide (show true = dblB a0_0 a0_1 a0_2 a0_3 a0_4 a0_5 a1_0 a1_1 a1_2 a1_3 a1_4 a1_5 by unfold dblB sameB; rw [g1, Bool.true_and, decide_eq_false (fun h => e4 (by simp only [h]))]; rfl)
      clear e4
      go_wp2
      go_meet
      exact ⟨hf.out _ X.out, rfl⟩
    obtain ⟨f4, g4, k4⟩ := heq.out _ _ e4
    have E4 := hide e4
    clear e4
    by_cases e5 : a0_3 = a1_3
    case neg =>
      obtain ⟨f5, g5, k5⟩ := hne.out _ _ e5
      have X := hide (show true = dblB a0_0 a0_1 a0_2 a0_3 a0_4 a0_5 a1_0 a1_1 a1_2 a1_3 a1_4 a1_5 by unfold dblB sameB; rw [g1, Bool.true_and, decide_eq_false (fun h => e5 (by simp only [h]))]; rfl)
      clear e5
      go_wp2
      go_meet
      exact ⟨hf.out _ X.out, rfl⟩
    obtain ⟨f5, g5, k5⟩ := heq.out _ _ e5
    have E5 := hide e5
    clear e5
    by_cases e6 : a0_5 = a1_5
    case neg =>
      obtain ⟨f6, g6, k6⟩ := hne.out _ _ e6
      have X := hide (show true = dblB a0_0 a0_1 a0_2 a0_3 a0_4 a0_5 a1_0 a1_1 a1_2 a1_3 a1_4 a1_5 by unfold dblB sameB; rw [g1, Bool.true_and, decide_eq_false (fun h => e6 (by simp only [h]))]; rfl)
      clear e6
      go_wp2
      go_meet
      exact ⟨hf.out _ X.out, rfl⟩
    obtain ⟨f6, g6, k6⟩ := heq.out _ _ e6
    have E6 := hide e6
    clear e6
    have X := hide (show false = dblB a0_0 a0_1 a0_2 a0_3 a0_4 a0_5 a1_0 a1_1 a1_2 a1_3 a1_4 a1_5 by unfold dblB sameB; rw [g1, Bool.true_and, decide_eq_true ⟨E2.out, E3.out, ⟨E4.out, E5.out⟩, E1.out, E6.out⟩]; rfl)
    go_wp2
    go_meet
    exact ⟨hf.out _ X.out, rfl⟩
  case rest =>
    obtain ⟨rfl, hwx⟩ := hcut
    obtain rfl : _ = wc := hwx.symm
    clear hwx
    go_upto_region 4 with fail
    go_cut [6] from 8 to 116 (fun x wx => x = Value.bool ar ∧ wx = w1)
    case first =>
      have hf : Hid (∀ b, b = arnB a0_2 a0_4 a1_2 a1_4 → Value.bool b = Value.bool ar) := fun b h => by rw [h, har.out]
      by_cases e1 : a0_2 < a1_2
      case neg => go_wp2; go_meet; exact ⟨hf.out _ (by rw [arnB, decide_eq_false (by omega)]), rfl⟩
      by_cases e2 : a1_4 < a0_4
      case neg => go_wp2; go_meet; exact ⟨hf.out _ (by rw [arnB, decide_eq_false (by omega)]), rfl⟩
      go_wp2
      go_meet
      exact ⟨hf.out _ (by rw [arnB, decide_eq_true ⟨e1, e2⟩]), rfl⟩
    case rest =>
      obtain ⟨rfl, hwx⟩ := hcut
      obtain rfl : _ = wc := hwx.symm
      clear hwx
      go_upto_region 5 with fail
      go_cut [7] from 8 to 116 (fun x wx => x = Value.bool bk ∧ wx = w1)
      case first =>
        have hf : Hid (∀ b, b = arnB a1_2 a1_4 a0_2 a0_4 → Value.bool b = Value.bool bk) := fun b h => by rw [h, hbk.out]
        by_cases e1 : a1_2 < a0_2
        case neg => go_wp2; go_meet; exact ⟨hf.out _ (by rw [arnB, decide_eq_false (by omega)]), rfl⟩
        by_cases e2 : a0_4 < a1_4
        case neg => go_wp2; go_meet; exact ⟨hf.out _ (by rw [arnB, decide_eq_false (by omega)]), rfl⟩
        go_wp2
        go_meet
        exact ⟨hf.out _ (by rw [arnB, decide_eq_true ⟨e1, e2⟩]), rfl⟩
      case rest =>
        obtain ⟨rfl, hwx⟩ := hcut
        obtain rfl : _ = wc := hwx.symm
        clear hwx
        have hbad : Hid (badB a0_0 a0_1 a0_2 a0_3 a0_4 a0_5 a1_0 a1_1 a1_2 a1_3 a1_4 a1_5 = (d || ar || bk)) := hide (by rw [badB, hd.out, har.out, hbk.out])
        have hbad2 : Hid (badB a1_0 a1_1 a1_2 a1_3 a1_4 a1_5 a0_0 a0_1 a0_2 a0_3 a0_4 a0_5 = (d || ar || bk)) := hide (by rw [badB_comm]; exact hbad.out)
        -- REGION
        have hcs : Hid (∀ w', Below w1.heap.size w1 w' → w'.cell? ⟨w.heap.size, 0, none⟩ = some (.int .i64 a0_0) ∧ w'.cell? ⟨w.heap.size, 1, none⟩ = some (.int .u64 a0_1) ∧ w'.cell? ⟨w.heap.size, 2, none⟩ = some (.int .i64 a0_2) ∧ w'.cell? ⟨w.heap.size, 3, none⟩ = some (.int .u64 a0_3) ∧ w'.cell? ⟨w.heap.size, 4, none⟩ = some (.int .i64 a0_4) ∧ w'.cell? ⟨w.heap.size, 5, none⟩ = some (.int .u64 a0_5) ∧ w'.cell? ⟨w.heap.size, 6, none⟩ = some (.slice a0_6 len0_6 cap0_6) ∧ w'.cell? ⟨w.heap.size + 1, 0, none⟩ = some (.int .i64 a1_0) ∧ w'.cell? ⟨w.heap.size + 1, 1, none⟩ = some (.int .u64 a1_1) ∧ w'.cell? ⟨w.heap.size + 1, 2, none⟩ = some (.int .i64 a1_2) ∧ w'.cell? ⟨w.heap.size + 1, 3, none⟩ = some (.int .u64 a1_3) ∧ w'.cell? ⟨w.heap.size + 1, 4, none⟩ = some (.int .i64 a1_4) ∧ w'.cell? ⟨w.heap.size + 1, 5, none⟩ = some (.int .u64 a1_5) ∧ w'.cell? ⟨w.heap.size + 1, 6, none⟩ = some (.slice a1_6 len1_6 cap1_6)) := fun w' h =>
          have V := HA1.out.below h
          have K := HB1.out.below h
          ⟨V.c0, V.c1, V.c2, V.c3, V.c4, V.c5, V.c6, K.c0, K.c1, K.c2, K.c3, K.c4, K.c5, K.c6⟩
        have hbc : Hid (Below w1.heap.size w1 w1.drew) := hide (Below.refl _ _).drew
        go_upto_region 6 with fail
        clear hlt hlt2 HA1 HB1 p0 p1 p2 p3 p4 p5 p6 q0 q1 q2 q3 q4 q5 q6
        obtain ⟨bd, hbd⟩ : ∃ b, (d || ar || bk) = b := ⟨_, rfl⟩
        rw [hbd] at hbad hbad2
        refine wp_region_noPanic ?_
        refine wp_region_held_drew (S := fun w' => w'.cell? ⟨w.heap.size, 0, none⟩ = some (.int .i64 a0_0) ∧ w'.cell? ⟨w.heap.size, 1, none⟩ = some (.int .u64 a0_1) ∧ w'.cell? ⟨w.heap.size, 2, none⟩ = some (.int .i64 a0_2) ∧ w'.cell? ⟨w.heap.size, 3, none⟩ = some (.int .u64 a0_3) ∧ w'.cell? ⟨w.heap.size, 4, none⟩ = some (.int .i64 a0_4) ∧ w'.cell? ⟨w.heap.size, 5, none⟩ = some (.int .u64 a0_5) ∧ w'.cell? ⟨w.heap.size, 6, none⟩ = some (.slice a0_6 len0_6 cap0_6) ∧ w'.cell? ⟨w.heap.size + 1, 0, none⟩ = some (.int .i64 a1_0) ∧ w'.cell? ⟨w.heap.size + 1, 1, none⟩ = some (.int .u64 a1_1) ∧ w'.cell? ⟨w.heap.size + 1, 2, none⟩ = some (.int .i64 a1_2) ∧ w'.cell? ⟨w.heap.size + 1, 3, none⟩ = some (.int .u64 a1_3) ∧ w'.cell? ⟨w.heap.size + 1, 4, none⟩ = some (.int .i64 a1_4) ∧ w'.cell? ⟨w.heap.size + 1, 5, none⟩ = some (.int .u64 a1_5) ∧ w'.cell? ⟨w.heap.size + 1, 6, none⟩ = some (.slice a1_6 len1_6 cap1_6)) (by kernel_rfl) (hcs.out _ hbc.out) (fun hHeld => ?_)
        have hno : Hid (d = true → ar = true → False) := hide (fun e1 e2 => by rw [e1] at hd; rw [e2] at har; exact dbl_arn hd.out har.out)
        have hno2 : Hid (d = true → bk = true → False) := hide (fun e1 e2 => by rw [e1] at hd; rw [e2] at hbk; exact dbl_arn (by rw [dblB_comm]; exact hd.out) hbk.out)
        have hno3 : Hid (ar = true → bk = true → False) := hide (fun e1 e2 => by rw [e1] at har; rw [e2] at hbk; exact arn_arn har.out hbk.out)
        cases d <;> cases ar <;> cases bk
        · cases hbd
          clear hno hno2 hno3
          refine take_set (i := 0) (v := .agg (vcells a0_0 a0_1 a0_2 a0_3 a0_4 a0_5 a0_6 len0_6 cap0_6)) rfl rfl (by kernel_rfl) (by kernel_rfl) (by kernel_rfl) (fun _ _ _ h => h) (Or.inl ⟨by kernel_rfl, fun w' hSw => ?_⟩) hHeld ?_
          · go_simp
          simp only [List.set_cons_succ, List.set_cons_zero]
          refine take_set (i := 1) (v := .agg (vcells a1_0 a1_1 a1_2 a1_3 a1_4 a1_5 a1_6 len1_6 cap1_6)) rfl rfl (by kernel_rfl) (by kernel_rfl) (by kernel_rfl) (fun _ _ _ h => h) (Or.inl ⟨by kernel_rfl, fun w' hSw => ?_⟩) hHeld ?_
          · go_simp
          simp only [List.set_cons_succ, List.set_cons_zero]
          refine take_set (i := 3) (v := .bool false) rfl rfl (by kernel_rfl) (by kernel_rfl) (by kernel_rfl) (fun _ _ _ h => h) (Or.inl ⟨by kernel_rfl, fun w' hSw => ?_⟩) hHeld ?_
          · go_simp
          simp only [List.set_cons_succ, List.set_cons_zero]
          refine wpAnyH_ready (rs := [2]) (by kernel_rfl) (by simp) ?_
          refine AllReadyH.cons (o := _) rfl (fun K hK => ?_) AllReadyH.nil
          go_simp
          refine (double_any _ _ _ _ _ _ _ _ _ _ _ _ _ _ _ _ _ _ _).mono ?_
          rintro e w' ⟨rfl, hbel⟩
          rw [hd.out]
          replace hbc := hide (hbc.out.trans (hbel.mono hbc.out.size))
          clear hbel
          refine hK.out _ _ (hcs.out _ hbc.out) (fun hHeld => ?_)
          clear hK K
          refine take_set (i := 4) (v := .bool true) rfl rfl (by kernel_rfl) (by kernel_rfl) (by kernel_rfl) (fun _ _ _ h => h) (Or.inl ⟨by kernel_rfl, fun w' hSw => ?_⟩) hHeld ?_
          · go_simp
          simp only [List.set_cons_succ, List.set_cons_zero]
          refine take_set (i := 5) (v := .bool true) rfl rfl (by kernel_rfl) (by kernel_rfl) (by kernel_rfl) (fun _ _ _ h => h) (Or.inl ⟨by kernel_rfl, fun w' hSw => ?_⟩) hHeld ?_
          · go_simp
          simp only [List.set_cons_succ, List.set_cons_zero]
          refine take_set (i := 6) (v := .agg (vcells a0_0 a0_1 a0_2 a0_3 a0_4 a0_5 a0_6 len0_6 cap0_6)) rfl rfl (by kernel_rfl) (by kernel_rfl) (by kernel_rfl) (fun _ _ _ h => h) (Or.inl ⟨by kernel_rfl, fun w' hSw => ?_⟩) hHeld ?_
          · go_simp
          simp only [List.set_cons_succ, List.set_cons_zero]
          refine take_set (i := 7) (v := .agg (vcells a1_0 a1_1 a1_2 a1_3 a1_4 a1_5 a1_6 len1_6 cap1_6)) rfl rfl (by kernel_rfl) (by kernel_rfl) (by kernel_rfl) (fun _ _ _ h => h) (Or.inl ⟨by kernel_rfl, fun w' hSw => ?_⟩) hHeld ?_
          · go_simp
          simp only [List.set_cons_succ, List.set_cons_zero]
          refine take_set (i := 9) (v := .bool false) rfl rfl (by kernel_rfl) (by kernel_rfl) (by kernel_rfl) (fun _ _ _ h => h) (Or.inl ⟨by kernel_rfl, fun w' hSw => ?_⟩) hHeld ?_
          · go_simp
          simp only [List.set_cons_succ, List.set_cons_zero]
          refine wpAnyH_ready (rs := [8]) (by kernel_rfl) (by simp) ?_
          refine AllReadyH.cons (o := _) rfl (fun K hK => ?_) AllReadyH.nil
          go_simp
          refine (around_any _ _ _ _ _ _ _ _ _ _ _ _ _ _ _ _ _ _ _).mono ?_
          rintro e w' ⟨rfl, hbel⟩
          rw [har.out]
          replace hbc := hide (hbc.out.trans (hbel.mono hbc.out.size))
          clear hbel
          refine hK.out _ _ (hcs.out _ hbc.out) (fun hHeld => ?_)
          clear hK K
          refine take_set (i := 10) (v := .bool true) rfl rfl (by kernel_rfl) (by kernel_rfl) (by kernel_rfl) (fun _ _ _ h => h) (Or.inl ⟨by kernel_rfl, fun w' hSw => ?_⟩) hHeld ?_
          · go_simp
          simp only [List.set_cons_succ, List.set_cons_zero]
          refine take_set (i := 11) (v := .bool true) rfl rfl (by kernel_rfl) (by kernel_rfl) (by kernel_rfl) (fun _ _ _ h => h) (Or.inl ⟨by kernel_rfl, fun w' hSw => ?_⟩) hHeld ?_
          · go_simp
          simp only [List.set_cons_succ, List.set_cons_zero]
          refine take_set (i := 12) (v := .bool true) rfl rfl (by kernel_rfl) (by kernel_rfl) (by kernel_rfl) (fun _ _ _ h => h) (Or.inl ⟨by kernel_rfl, fun w' hSw => ?_⟩) hHeld ?_
          · go_simp
          simp only [List.set_cons_succ, List.set_cons_zero]
          refine take_set (i := 13) (v := .agg (vcells a0_0 a0_1 a0_2 a0_3 a0_4 a0_5 a0_6 len0_6 cap0_6)) rfl rfl (by kernel_rfl) (by kernel_rfl) (by kernel_rfl) (fun _ _ _ h => h) (Or.inl ⟨by kernel_rfl, fun w' hSw => ?_⟩) hHeld ?_
          · go_simp
          simp only [List.set_cons_succ, List.set_cons_zero]
          refine take_set (i := 14) (v := .agg (vcells a1_0 a1_1 a1_2 a1_3 a1_4 a1_5 a1_6 len1_6 cap1_6)) rfl rfl (by kernel_rfl) (by kernel_rfl) (by kernel_rfl) (fun _ _ _ h => h) (Or.inl ⟨by kernel_rfl, fun w' hSw => ?_⟩) hHeld ?_
          · go_simp
          simp only [List.set_cons_succ, List.set_cons_zero]
          refine take_set (i := 16) (v := .bool false) rfl rfl (by kernel_rfl) (by kernel_rfl) (by kernel_rfl) (fun _ _ _ h => h) (Or.inl ⟨by kernel_rfl, fun w' hSw => ?_⟩) hHeld ?_
          · go_simp
          simp only [List.set_cons_succ, List.set_cons_zero]
          refine wpAnyH_ready (rs := [15]) (by kernel_rfl) (by simp) ?_
          refine AllReadyH.cons (o := _) rfl (fun K hK => ?_) AllReadyH.nil
          go_simp
          refine (bad_any _ _ _ _ _ _ _ _ _ _ _ _ _ _ _ _ _ _ _).mono ?_
          rintro e w' ⟨rfl, hbel⟩
          rw [hbad.out]
          replace hbc := hide (hbc.out.trans (hbel.mono hbc.out.size))
          clear hbel
          refine hK.out _ _ (hcs.out _ hbc.out) (fun hHeld => ?_)
          clear hK K
          refine take_set (i := 17) (v := .bool false) rfl rfl (by kernel_rfl) (by kernel_rfl) (by kernel_rfl) (fun _ _ _ h => h) (Or.inl ⟨by kernel_rfl, fun w' hSw => ?_⟩) hHeld ?_
          · go_simp
          simp only [List.set_cons_succ, List.set_cons_zero]
          refine take_set (i := 18) (v := .bool false) rfl rfl (by kernel_rfl) (by kernel_rfl) (by kernel_rfl) (fun _ _ _ h => h) (Or.inl ⟨by kernel_rfl, fun w' hSw => ?_⟩) hHeld ?_
          · go_simp
          simp only [List.set_cons_succ, List.set_cons_zero]
          refine take_set (i := 19) (v := .bool false) rfl rfl (by kernel_rfl) (by kernel_rfl) (by kernel_rfl) (fun _ _ _ h => h) (Or.inl ⟨by kernel_rfl, fun w' hSw => ?_⟩) hHeld ?_
          · go_simp
          simp only [List.set_cons_succ, List.set_cons_zero]
          refine take_set (i := 20) (v := .bool false) rfl rfl (by kernel_rfl) (by kernel_rfl) (by kernel_rfl) (fun _ _ _ h => h) (Or.inl ⟨by kernel_rfl, fun w' hSw => ?_⟩) hHeld ?_
          · go_simp
          simp only [List.set_cons_succ, List.set_cons_zero]
          refine take_set (i := 21) (v := .bool false) rfl rfl (by kernel_rfl) (by kernel_rfl) (by kernel_rfl) (fun _ _ _ h => h) (Or.inl ⟨by kernel_rfl, fun w' hSw => ?_⟩) hHeld ?_
          · go_simp
          simp only [List.set_cons_succ, List.set_cons_zero]
          refine take_set (i := 22) (v := .bool false) rfl rfl (by kernel_rfl) (by kernel_rfl) (by kernel_rfl) (fun _ _ _ h => h) (Or.inl ⟨by kernel_rfl, fun w' hSw => ?_⟩) hHeld ?_
          · go_simp
          simp only [List.set_cons_succ, List.set_cons_zero]
          refine take_set (i := 23) (v := .bool true) rfl rfl (by kernel_rfl) (by kernel_rfl) (by kernel_rfl) (fun _ _ _ h => h) (Or.inl ⟨by kernel_rfl, fun w' hSw => ?_⟩) hHeld ?_
          · go_simp
          simp only [List.set_cons_succ, List.set_cons_zero]
          refine take_set (i := 24) (v := .bool true) rfl rfl (by kernel_rfl) (by kernel_rfl) (by kernel_rfl) (fun _ _ _ h => h) (Or.inl ⟨by kernel_rfl, fun w' hSw => ?_⟩) hHeld ?_
          · go_simp
          simp only [List.set_cons_succ, List.set_cons_zero]
          refine take_set (i := 25) (v := .bool true) rfl rfl (by kernel_rfl) (by kernel_rfl) (by kernel_rfl) (fun _ _ _ h => h) (Or.inl ⟨by kernel_rfl, fun w' hSw => ?_⟩) hHeld ?_
          · go_simp
          simp only [List.set_cons_succ, List.set_cons_zero]
          refine take_set (i := 26) (v := .agg (vcells a1_0 a1_1 a1_2 a1_3 a1_4 a1_5 a1_6 len1_6 cap1_6)) rfl rfl (by kernel_rfl) (by kernel_rfl) (by kernel_rfl) (fun _ _ _ h => h) (Or.inl ⟨by kernel_rfl, fun w' hSw => ?_⟩) hHeld ?_
          · go_simp
          simp only [List.set_cons_succ, List.set_cons_zero]
          refine take_set (i := 27) (v := .agg (vcells a0_0 a0_1 a0_2 a0_3 a0_4 a0_5 a0_6 len0_6 cap0_6)) rfl rfl (by kernel_rfl) (by kernel_rfl) (by kernel_rfl) (fun _ _ _ h => h) (Or.inl ⟨by kernel_rfl, fun w' hSw => ?_⟩) hHeld ?_
          · go_simp
          simp only [List.set_cons_succ, List.set_cons_zero]
          refine take_set (i := 29) (v := .agg (vcells a0_0 a0_1 a0_2 a0_3 a0_4 a0_5 a0_6 len0_6 cap0_6)) rfl rfl (by kernel_rfl) (by kernel_rfl) (by kernel_rfl) (fun _ _ _ h => h) (Or.inl ⟨by kernel_rfl, fun w' hSw => ?_⟩) hHeld ?_
          · go_simp
          simp only [List.set_cons_succ, List.set_cons_zero]
          refine take_set (i := 30) (v := .agg (vcells a1_0 a1_1 a1_2 a1_3 a1_4 a1_5 a1_6 len1_6 cap1_6)) rfl rfl (by kernel_rfl) (by kernel_rfl) (by kernel_rfl) (fun _ _ _ h => h) (Or.inl ⟨by kernel_rfl, fun w' hSw => ?_⟩) hHeld ?_
          · go_simp
          simp only [List.set_cons_succ, List.set_cons_zero]
          refine wpAnyH_ready (rs := [28]) (by kernel_rfl) (by simp) ?_
          refine AllReadyH.cons (o := _) rfl (fun K hK => ?_) AllReadyH.nil
          go_simp
          refine (bad_any _ _ _ _ _ _ _ _ _ _ _ _ _ _ _ _ _ _ _).mono ?_
          rintro e w' ⟨rfl, hbel⟩
          rw [hbad2.out]
          replace hbc := hide (hbc.out.trans (hbel.mono hbc.out.size))
          clear hbel
          refine hK.out _ _ (hcs.out _ hbc.out) (fun hHeld => ?_)
          clear hK K
          refine wpAnyH_ready (rs := [31]) (by kernel_rfl) (by simp) ?_
          refine AllReadyH.cons (o := _) rfl (fun K hK => ?_) AllReadyH.nil
          go_simp
          refine (bad_any _ _ _ _ _ _ _ _ _ _ _ _ _ _ _ _ _ _ _).mono ?_
          rintro e w' ⟨rfl, hbel⟩
          rw [hbad.out]
          replace hbc := hide (hbc.out.trans (hbel.mono hbc.out.size))
          clear hbel
          refine hK.out _ _ (hcs.out _ hbc.out) (fun hHeld => ?_)
          clear hK K
          refine take_set (i := 32) (v := .bool true) rfl rfl (by kernel_rfl) (by kernel_rfl) (by kernel_rfl) (fun _ _ _ h => h) (Or.inl ⟨by kernel_rfl, fun w' hSw => ?_⟩) hHeld ?_
          · go_simp
          simp only [List.set_cons_succ, List.set_cons_zero]
          refine take_set (i := 33) (v := .bool true) rfl rfl (by kernel_rfl) (by kernel_rfl) (by kernel_rfl) (fun _ _ _ h => h) (Or.inl ⟨by kernel_rfl, fun w' hSw => ?_⟩) hHeld ?_
          · go_simp
          simp only [List.set_cons_succ, List.set_cons_zero]
          refine take_set (i := 34) (v := .bool true) rfl rfl (by kernel_rfl) (by kernel_rfl) (by kernel_rfl) (fun _ _ _ h => h) (Or.inl ⟨by kernel_rfl, fun w' hSw => ?_⟩) hHeld ?_
          · go_simp
          simp only [List.set_cons_succ, List.set_cons_zero]
          refine take_set (i := 35) (v := .agg (vcells a0_0 a0_1 a0_2 a0_3 a0_4 a0_5 a0_6 len0_6 cap0_6)) rfl rfl (by kernel_rfl) (by kernel_rfl) (by kernel_rfl) (fun _ _ _ h => h) (Or.inl ⟨by kernel_rfl, fun w' hSw => ?_⟩) hHeld ?_
          · go_simp
          simp only [List.set_cons_succ, List.set_cons_zero]
          refine take_set (i := 36) (v := .agg (vcells a0_0 a0_1 a0_2 a0_3 a0_4 a0_5 a0_6 len0_6 cap0_6)) rfl rfl (by kernel_rfl) (by kernel_rfl) (by kernel_rfl) (fun _ _ _ h => h) (Or.inl ⟨by kernel_rfl, fun w' hSw => ?_⟩) hHeld ?_
          · go_simp
          simp only [List.set_cons_succ, List.set_cons_zero]
          refine wpAnyH_ready (rs := [37]) (by kernel_rfl) (by simp) ?_
          refine AllReadyH.cons (o := _) rfl (fun K hK => ?_) AllReadyH.nil
          go_simp
          refine (bad_any _ _ _ _ _ _ _ _ _ _ _ _ _ _ _ _ _ _ _).mono ?_
          rintro e w' ⟨rfl, hbel⟩
          rw [badB_self]
          replace hbc := hide (hbc.out.trans (hbel.mono hbc.out.size))
          clear hbel
          refine hK.out _ _ (hcs.out _ hbc.out) (fun hHeld => ?_)
          clear hK K
          refine take_set (i := 38) (v := .bool true) rfl rfl (by kernel_rfl) (by kernel_rfl) (by kernel_rfl) (fun _ _ _ h => h) (Or.inl ⟨by kernel_rfl, fun w' hSw => ?_⟩) hHeld ?_
          · go_simp
          simp only [List.set_cons_succ, List.set_cons_zero]
          refine take_set (i := 39) (v := .bool true) rfl rfl (by kernel_rfl) (by kernel_rfl) (by kernel_rfl) (fun _ _ _ h => h) (Or.inl ⟨by kernel_rfl, fun w' hSw => ?_⟩) hHeld ?_
          · go_simp
          simp only [List.set_cons_succ, List.set_cons_zero]
          refine take_set (i := 40) (v := .bool true) rfl rfl (by kernel_rfl) (by kernel_rfl) (by kernel_rfl) (fun _ _ _ h => h) (Or.inl ⟨by kernel_rfl, fun w' hSw => ?_⟩) hHeld ?_
          · go_simp
          simp only [List.set_cons_succ, List.set_cons_zero]
          refine wpAnyH_done (by kernel_rfl) ?_ _
          refine NoPanic.normal ?_
          go_wp2
          go_ret
          exact ⟨rfl, HN1.out.trans (hbc.out.mono HN1.out.size)⟩
        · cases hbd
          clear hno hno2 hno3
          refine take_set (i := 0) (v := .agg (vcells a0_0 a0_1 a0_2 a0_3 a0_4 a0_5 a0_6 len0_6 cap0_6)) rfl rfl (by kernel_rfl) (by kernel_rfl) (by kernel_rfl) (fun _ _ _ h => h) (Or.inl ⟨by kernel_rfl, fun w' hSw => ?_⟩) hHeld ?_
          · go_simp
          simp only [List.set_cons_succ, List.set_cons_zero]
          refine take_set (i := 1) (v := .agg (vcells a1_0 a1_1 a1_2 a1_3 a1_4 a1_5 a1_6 len1_6 cap1_6)) rfl rfl (by kernel_rfl) (by kernel_rfl) (by kernel_rfl) (fun _ _ _ h => h) (Or.inl ⟨by kernel_rfl, fun w' hSw => ?_⟩) hHeld ?_
          · go_simp
          simp only [List.set_cons_succ, List.set_cons_zero]
          refine take_set (i := 3) (v := .bool false) rfl rfl (by kernel_rfl) (by kernel_rfl) (by kernel_rfl) (fun _ _ _ h => h) (Or.inl ⟨by kernel_rfl, fun w' hSw => ?_⟩) hHeld ?_
          · go_simp
          simp only [List.set_cons_succ, List.set_cons_zero]
          refine wpAnyH_ready (rs := [2]) (by kernel_rfl) (by simp) ?_
          refine AllReadyH.cons (o := _) rfl (fun K hK => ?_) AllReadyH.nil
          go_simp
          refine (double_any _ _ _ _ _ _ _ _ _ _ _ _ _ _ _ _ _ _ _).mono ?_
          rintro e w' ⟨rfl, hbel⟩
          rw [hd.out]
          replace hbc := hide (hbc.out.trans (hbel.mono hbc.out.size))
          clear hbel
          refine hK.out _ _ (hcs.out _ hbc.out) (fun hHeld => ?_)
          clear hK K
          refine take_set (i := 4) (v := .bool true) rfl rfl (by kernel_rfl) (by kernel_rfl) (by kernel_rfl) (fun _ _ _ h => h) (Or.inl ⟨by kernel_rfl, fun w' hSw => ?_⟩) hHeld ?_
          · go_simp
          simp only [List.set_cons_succ, List.set_cons_zero]
          refine take_set (i := 5) (v := .bool true) rfl rfl (by kernel_rfl) (by kernel_rfl) (by kernel_rfl) (fun _ _ _ h => h) (Or.inl ⟨by kernel_rfl, fun w' hSw => ?_⟩) hHeld ?_
          · go_simp
          simp only [List.set_cons_succ, List.set_cons_zero]
          refine take_set (i := 6) (v := .agg (vcells a0_0 a0_1 a0_2 a0_3 a0_4 a0_5 a0_6 len0_6 cap0_6)) rfl rfl (by kernel_rfl) (by kernel_rfl) (by kernel_rfl) (fun _ _ _ h => h) (Or.inl ⟨by kernel_rfl, fun w' hSw => ?_⟩) hHeld ?_
          · go_simp
          simp only [List.set_cons_succ, List.set_cons_zero]
          refine take_set (i := 7) (v := .agg (vcells a1_0 a1_1 a1_2 a1_3 a1_4 a1_5 a1_6 len1_6 cap1_6)) rfl rfl (by kernel_rfl) (by kernel_rfl) (by kernel_rfl) (fun _ _ _ h => h) (Or.inl ⟨by kernel_rfl, fun w' hSw => ?_⟩) hHeld ?_
          · go_simp
          simp only [List.set_cons_succ, List.set_cons_zero]
          refine take_set (i := 9) (v := .bool false) rfl rfl (by kernel_rfl) (by kernel_rfl) (by kernel_rfl) (fun _ _ _ h => h) (Or.inl ⟨by kernel_rfl, fun w' hSw => ?_⟩) hHeld ?_
          · go_simp
          simp only [List.set_cons_succ, List.set_cons_zero]
          refine wpAnyH_ready (rs := [8]) (by kernel_rfl) (by simp) ?_
          refine AllReadyH.cons (o := _) rfl (fun K hK => ?_) AllReadyH.nil
          go_simp
          refine (around_any _ _ _ _ _ _ _ _ _ _ _ _ _ _ _ _ _ _ _).mono ?_
          rintro e w' ⟨rfl, hbel⟩
          rw [har.out]
          replace hbc := hide (hbc.out.trans (hbel.mono hbc.out.size))
          clear hbel
          refine hK.out _ _ (hcs.out _ hbc.out) (fun hHeld => ?_)
          clear hK K
          refine take_set (i := 10) (v := .bool true) rfl rfl (by kernel_rfl) (by kernel_rfl) (by kernel_rfl) (fun _ _ _ h => h) (Or.inl ⟨by kernel_rfl, fun w' hSw => ?_⟩) hHeld ?_
          · go_simp
          simp only [List.set_cons_succ, List.set_cons_zero]
          refine take_set (i := 11) (v := .bool true) rfl rfl (by kernel_rfl) (by kernel_rfl) (by kernel_rfl) (fun _ _ _ h => h) (Or.inl ⟨by kernel_rfl, fun w' hSw => ?_⟩) hHeld ?_
          · go_simp
          simp only [List.set_cons_succ, List.set_cons_zero]
          refine take_set (i := 12) (v := .bool true) rfl rfl (by kernel_rfl) (by kernel_rfl) (by kernel_rfl) (fun _ _ _ h => h) (Or.inl ⟨by kernel_rfl, fun w' hSw => ?_⟩) hHeld ?_
          · go_simp
          simp only [List.set_cons_succ, List.set_cons_zero]
          refine take_set (i := 13) (v := .agg (vcells a0_0 a0_1 a0_2 a0_3 a0_4 a0_5 a0_6 len0_6 cap0_6)) rfl rfl (by kernel_rfl) (by kernel_rfl) (by kernel_rfl) (fun _ _ _ h => h) (Or.inl ⟨by kernel_rfl, fun w' hSw => ?_⟩) hHeld ?_
          · go_simp
          simp only [List.set_cons_succ, List.set_cons_zero]
          refine take_set (i := 14) (v := .agg (vcells a1_0 a1_1 a1_2 a1_3 a1_4 a1_5 a1_6 len1_6 cap1_6)) rfl rfl (by kernel_rfl) (by kernel_rfl) (by kernel_rfl) (fun _ _ _ h => h) (Or.inl ⟨by kernel_rfl, fun w' hSw => ?_⟩) hHeld ?_
          · go_simp
          simp only [List.set_cons_succ, List.set_cons_zero]
          refine take_set (i := 16) (v := .bool false) rfl rfl (by kernel_rfl) (by kernel_rfl) (by kernel_rfl) (fun _ _ _ h => h) (Or.inl ⟨by kernel_rfl, fun w' hSw => ?_⟩) hHeld ?_
          · go_simp
          simp only [List.set_cons_succ, List.set_cons_zero]
          refine wpAnyH_ready (rs := [15]) (by kernel_rfl) (by simp) ?_
          refine AllReadyH.cons (o := _) rfl (fun K hK => ?_) AllReadyH.nil
          go_simp
          refine (bad_any _ _ _ _ _ _ _ _ _ _ _ _ _ _ _ _ _ _ _).mono ?_
          rintro e w' ⟨rfl, hbel⟩
          rw [hbad.out]
          replace hbc := hide (hbc.out.trans (hbel.mono hbc.out.size))
          clear hbel
          refine hK.out _ _ (hcs.out _ hbc.out) (fun hHeld => ?_)
          clear hK K
          refine take_set (i := 17) (v := .bool false) rfl rfl (by kernel_rfl) (by kernel_rfl) (by kernel_rfl) (fun _ _ _ h => h) (Or.inl ⟨by kernel_rfl, fun w' hSw => ?_⟩) hHeld ?_
          · go_simp
          simp only [List.set_cons_succ, List.set_cons_zero]
          refine take_set (i := 18) (v := .bool false) rfl rfl (by kernel_rfl) (by kernel_rfl) (by kernel_rfl) (fun _ _ _ h => h) (Or.inl ⟨by kernel_rfl, fun w' hSw => ?_⟩) hHeld ?_
          · go_simp
          simp only [List.set_cons_succ, List.set_cons_zero]
          refine take_set (i := 19) (v := .bool false) rfl rfl (by kernel_rfl) (by kernel_rfl) (by kernel_rfl) (fun _ _ _ h => h) (Or.inl ⟨by kernel_rfl, fun w' hSw => ?_⟩) hHeld ?_
          · go_simp
          simp only [List.set_cons_succ, List.set_cons_zero]
          refine take_set (i := 20) (v := .bool false) rfl rfl (by kernel_rfl) (by kernel_rfl) (by kernel_rfl) (fun _ _ _ h => h) (Or.inl ⟨by kernel_rfl, fun w' hSw => ?_⟩) hHeld ?_
          · go_simp
          simp only [List.set_cons_succ, List.set_cons_zero]
          refine take_set (i := 21) (v := .bool true) rfl rfl (by kernel_rfl) (by kernel_rfl) (by kernel_rfl) (fun _ _ _ h => h) (Or.inl ⟨by kernel_rfl, fun w' hSw => ?_⟩) hHeld ?_
          · go_simp
          simp only [List.set_cons_succ, List.set_cons_zero]
          refine take_set (i := 22) (v := .bool true) rfl rfl (by kernel_rfl) (by kernel_rfl) (by kernel_rfl) (fun _ _ _ h => h) (Or.inl ⟨by kernel_rfl, fun w' hSw => ?_⟩) hHeld ?_
          · go_simp
          simp only [List.set_cons_succ, List.set_cons_zero]
          refine take_set (i := 23) (v := .bool true) rfl rfl (by kernel_rfl) (by kernel_rfl) (by kernel_rfl) (fun _ _ _ h => h) (Or.inl ⟨by kernel_rfl, fun w' hSw => ?_⟩) hHeld ?_
          · go_simp
          simp only [List.set_cons_succ, List.set_cons_zero]
          refine take_set (i := 24) (v := .bool true) rfl rfl (by kernel_rfl) (by kernel_rfl) (by kernel_rfl) (fun _ _ _ h => h) (Or.inl ⟨by kernel_rfl, fun w' hSw => ?_⟩) hHeld ?_
          · go_simp
          simp only [List.set_cons_succ, List.set_cons_zero]
          refine take_set (i := 25) (v := .bool true) rfl rfl (by kernel_rfl) (by kernel_rfl) (by kernel_rfl) (fun _ _ _ h => h) (Or.inl ⟨by kernel_rfl, fun w' hSw => ?_⟩) hHeld ?_
          · go_simp
          simp only [List.set_cons_succ, List.set_cons_zero]
          refine take_set (i := 26) (v := .agg (vcells a1_0 a1_1 a1_2 a1_3 a1_4 a1_5 a1_6 len1_6 cap1_6)) rfl rfl (by kernel_rfl) (by kernel_rfl) (by kernel_rfl) (fun _ _ _ h => h) (Or.inl ⟨by kernel_rfl, fun w' hSw => ?_⟩) hHeld ?_
          · go_simp
          simp only [List.set_cons_succ, List.set_cons_zero]
          refine take_set (i := 27) (v := .agg (vcells a0_0 a0_1 a0_2 a0_3 a0_4 a0_5 a0_6 len0_6 cap0_6)) rfl rfl (by kernel_rfl) (by kernel_rfl) (by kernel_rfl) (fun _ _ _ h => h) (Or.inl ⟨by kernel_rfl, fun w' hSw => ?_⟩) hHeld ?_
          · go_simp
          simp only [List.set_cons_succ, List.set_cons_zero]
          refine take_set (i := 29) (v := .agg (vcells a0_0 a0_1 a0_2 a0_3 a0_4 a0_5 a0_6 len0_6 cap0_6)) rfl rfl (by kernel_rfl) (by kernel_rfl) (by kernel_rfl) (fun _ _ _ h => h) (Or.inl ⟨by kernel_rfl, fun w' hSw => ?_⟩) hHeld ?_
          · go_simp
          simp only [List.set_cons_succ, List.set_cons_zero]
          refine take_set (i := 30) (v := .agg (vcells a1_0 a1_1 a1_2 a1_3 a1_4 a1_5 a1_6 len1_6 cap1_6)) rfl rfl (by kernel_rfl) (by kernel_rfl) (by kernel_rfl) (fun _ _ _ h => h) (Or.inl ⟨by kernel_rfl, fun w' hSw => ?_⟩) hHeld ?_
          · go_simp
          simp only [List.set_cons_succ, List.set_cons_zero]
          refine wpAnyH_ready (rs := [28]) (by kernel_rfl) (by simp) ?_
          refine AllReadyH.cons (o := _) rfl (fun K hK => ?_) AllReadyH.nil
          go_simp
          refine (bad_any _ _ _ _ _ _ _ _ _ _ _ _ _ _ _ _ _ _ _).mono ?_
          rintro e w' ⟨rfl, hbel⟩
          rw [hbad2.out]
          replace hbc := hide (hbc.out.trans (hbel.mono hbc.out.size))
          clear hbel
          refine hK.out _ _ (hcs.out _ hbc.out) (fun hHeld => ?_)
          clear hK K
          refine wpAnyH_ready (rs := [31]) (by kernel_rfl) (by simp) ?_
          refine AllReadyH.cons (o := _) rfl (fun K hK => ?_) AllReadyH.nil
          go_simp
          refine (bad_any _ _ _ _ _ _ _ _ _ _ _ _ _ _ _ _ _ _ _).mono ?_
          rintro e w' ⟨rfl, hbel⟩
          rw [hbad.out]
          replace hbc := hide (hbc.out.trans (hbel.mono hbc.out.size))
          clear hbel
          refine hK.out _ _ (hcs.out _ hbc.out) (fun hHeld => ?_)
          clear hK K
          refine take_set (i := 32) (v := .bool true) rfl rfl (by kernel_rfl) (by kernel_rfl) (by kernel_rfl) (fun _ _ _ h => h) (Or.inl ⟨by kernel_rfl, fun w' hSw => ?_⟩) hHeld ?_
          · go_simp
          simp only [List.set_cons_succ, List.set_cons_zero]
          refine take_set (i := 33) (v := .bool true) rfl rfl (by kernel_rfl) (by kernel_rfl) (by kernel_rfl) (fun _ _ _ h => h) (Or.inl ⟨by kernel_rfl, fun w' hSw => ?_⟩) hHeld ?_
          · go_simp
          simp only [List.set_cons_succ, List.set_cons_zero]
          refine take_set (i := 34) (v := .bool true) rfl rfl (by kernel_rfl) (by kernel_rfl) (by kernel_rfl) (fun _ _ _ h => h) (Or.inl ⟨by kernel_rfl, fun w' hSw => ?_⟩) hHeld ?_
          · go_simp
          simp only [List.set_cons_succ, List.set_cons_zero]
          refine take_set (i := 35) (v := .agg (vcells a0_0 a0_1 a0_2 a0_3 a0_4 a0_5 a0_6 len0_6 cap0_6)) rfl rfl (by kernel_rfl) (by kernel_rfl) (by kernel_rfl) (fun _ _ _ h => h) (Or.inl ⟨by kernel_rfl, fun w' hSw => ?_⟩) hHeld ?_
          · go_simp
          simp only [List.set_cons_succ, List.set_cons_zero]
          refine take_set (i := 36) (v := .agg (vcells a0_0 a0_1 a0_2 a0_3 a0_4 a0_5 a0_6 len0_6 cap0_6)) rfl rfl (by kernel_rfl) (by kernel_rfl) (by kernel_rfl) (fun _ _ _ h => h) (Or.inl ⟨by kernel_rfl, fun w' hSw => ?_⟩) hHeld ?_
          · go_simp
          simp only [List.set_cons_succ, List.set_cons_zero]
          refine wpAnyH_ready (rs := [37]) (by kernel_rfl) (by simp) ?_
          refine AllReadyH.cons (o := _) rfl (fun K hK => ?_) AllReadyH.nil
          go_simp
          refine (bad_any _ _ _ _ _ _ _ _ _ _ _ _ _ _ _ _ _ _ _).mono ?_
          rintro e w' ⟨rfl, hbel⟩
          rw [badB_self]
          replace hbc := hide (hbc.out.trans (hbel.mono hbc.out.size))
          clear hbel
          refine hK.out _ _ (hcs.out _ hbc.out) (fun hHeld => ?_)
          clear hK K
          refine take_set (i := 38) (v := .bool true) rfl rfl (by kernel_rfl) (by kernel_rfl) (by kernel_rfl) (fun _ _ _ h => h) (Or.inl ⟨by kernel_rfl, fun w' hSw => ?_⟩) hHeld ?_
          · go_simp
          simp only [List.set_cons_succ, List.set_cons_zero]
          refine take_set (i := 39) (v := .bool true) rfl rfl (by kernel_rfl) (by kernel_rfl) (by kernel_rfl) (fun _ _ _ h => h) (Or.inl ⟨by kernel_rfl, fun w' hSw => ?_⟩) hHeld ?_
          · go_simp
          simp only [List.set_cons_succ, List.set_cons_zero]
          refine take_set (i := 40) (v := .bool true) rfl rfl (by kernel_rfl) (by kernel_rfl) (by kernel_rfl) (fun _ _ _ h => h) (Or.inl ⟨by kernel_rfl, fun w' hSw => ?_⟩) hHeld ?_
          · go_simp
          simp only [List.set_cons_succ, List.set_cons_zero]
          refine wpAnyH_done (by kernel_rfl) ?_ _
          refine NoPanic.normal ?_
          go_wp2
          go_ret
          exact ⟨rfl, HN1.out.trans (hbc.out.mono HN1.out.size)⟩
        · cases hbd
          clear hno hno2 hno3
          refine take_set (i := 0) (v := .agg (vcells a0_0 a0_1 a0_2 a0_3 a0_4 a0_5 a0_6 len0_6 cap0_6)) rfl rfl (by kernel_rfl) (by kernel_rfl) (by kernel_rfl) (fun _ _ _ h => h) (Or.inl ⟨by kernel_rfl, fun w' hSw => ?_⟩) hHeld ?_
          · go_simp
          simp only [List.set_cons_succ, List.set_cons_zero]
          refine take_set (i := 1) (v := .agg (vcells a1_0 a1_1 a1_2 a1_3 a1_4 a1_5 a1_6 len1_6 cap1_6)) rfl rfl (by kernel_rfl) (by kernel_rfl) (by kernel_rfl) (fun _ _ _ h => h) (Or.inl ⟨by kernel_rfl, fun w' hSw => ?_⟩) hHeld ?_
          · go_simp
          simp only [List.set_cons_succ, List.set_cons_zero]
          refine take_set (i := 3) (v := .bool false) rfl rfl (by kernel_rfl) (by kernel_rfl) (by kernel_rfl) (fun _ _ _ h => h) (Or.inl ⟨by kernel_rfl, fun w' hSw => ?_⟩) hHeld ?_
          · go_simp
          simp only [List.set_cons_succ, List.set_cons_zero]
          refine wpAnyH_ready (rs := [2]) (by kernel_rfl) (by simp) ?_
          refine AllReadyH.cons (o := _) rfl (fun K hK => ?_) AllReadyH.nil
          go_simp
          refine (double_any _ _ _ _ _ _ _ _ _ _ _ _ _ _ _ _ _ _ _).mono ?_
          rintro e w' ⟨rfl, hbel⟩
          rw [hd.out]
          replace hbc := hide (hbc.out.trans (hbel.mono hbc.out.size))
          clear hbel
          refine hK.out _ _ (hcs.out _ hbc.out) (fun hHeld => ?_)
          clear hK K
          refine take_set (i := 4) (v := .bool true) rfl rfl (by kernel_rfl) (by kernel_rfl) (by kernel_rfl) (fun _ _ _ h => h) (Or.inl ⟨by kernel_rfl, fun w' hSw => ?_⟩) hHeld ?_
          · go_simp
          simp only [List.set_cons_succ, List.set_cons_zero]
          refine take_set (i := 5) (v := .bool true) rfl rfl (by kernel_rfl) (by kernel_rfl) (by kernel_rfl) (fun _ _ _ h => h) (Or.inl ⟨by kernel_rfl, fun w' hSw => ?_⟩) hHeld ?_
          · go_simp
          simp only [List.set_cons_succ, List.set_cons_zero]
          refine take_set (i := 6) (v := .agg (vcells a0_0 a0_1 a0_2 a0_3 a0_4 a0_5 a0_6 len0_6 cap0_6)) rfl rfl (by kernel_rfl) (by kernel_rfl) (by kernel_rfl) (fun _ _ _ h => h) (Or.inl ⟨by kernel_rfl, fun w' hSw => ?_⟩) hHeld ?_
          · go_simp
          simp only [List.set_cons_succ, List.set_cons_zero]
          refine take_set (i := 7) (v := .agg (vcells a1_0 a1_1 a1_2 a1_3 a1_4 a1_5 a1_6 len1_6 cap1_6)) rfl rfl (by kernel_rfl) (by kernel_rfl) (by kernel_rfl) (fun _ _ _ h => h) (Or.inl ⟨by kernel_rfl, fun w' hSw => ?_⟩) hHeld ?_
          · go_simp
          simp only [List.set_cons_succ, List.set_cons_zero]
          refine take_set (i := 9) (v := .bool true) rfl rfl (by kernel_rfl) (by kernel_rfl) (by kernel_rfl) (fun _ _ _ h => h) (Or.inl ⟨by kernel_rfl, fun w' hSw => ?_⟩) hHeld ?_
          · go_simp
          simp only [List.set_cons_succ, List.set_cons_zero]
          refine wpAnyH_ready (rs := [8]) (by kernel_rfl) (by simp) ?_
          refine AllReadyH.cons (o := _) rfl (fun K hK => ?_) AllReadyH.nil
          go_simp
          refine (around_any _ _ _ _ _ _ _ _ _ _ _ _ _ _ _ _ _ _ _).mono ?_
          rintro e w' ⟨rfl, hbel⟩
          rw [har.out]
          replace hbc := hide (hbc.out.trans (hbel.mono hbc.out.size))
          clear hbel
          refine hK.out _ _ (hcs.out _ hbc.out) (fun hHeld => ?_)
          clear hK K
          refine take_set (i := 10) (v := .bool true) rfl rfl (by kernel_rfl) (by kernel_rfl) (by kernel_rfl) (fun _ _ _ h => h) (Or.inl ⟨by kernel_rfl, fun w' hSw => ?_⟩) hHeld ?_
          · go_simp
          simp only [List.set_cons_succ, List.set_cons_zero]
          refine take_set (i := 11) (v := .bool true) rfl rfl (by kernel_rfl) (by kernel_rfl) (by kernel_rfl) (fun _ _ _ h => h) (Or.inl ⟨by kernel_rfl, fun w' hSw => ?_⟩) hHeld ?_
          · go_simp
          simp only [List.set_cons_succ, List.set_cons_zero]
          refine take_set (i := 12) (v := .bool true) rfl rfl (by kernel_rfl) (by kernel_rfl) (by kernel_rfl) (fun _ _ _ h => h) (Or.inl ⟨by kernel_rfl, fun w' hSw => ?_⟩) hHeld ?_
          · go_simp
          simp only [List.set_cons_succ, List.set_cons_zero]
          refine take_set (i := 13) (v := .agg (vcells a0_0 a0_1 a0_2 a0_3 a0_4 a0_5 a0_6 len0_6 cap0_6)) rfl rfl (by kernel_rfl) (by kernel_rfl) (by kernel_rfl) (fun _ _ _ h => h) (Or.inl ⟨by kernel_rfl, fun w' hSw => ?_⟩) hHeld ?_
          · go_simp
          simp only [List.set_cons_succ, List.set_cons_zero]
          refine take_set (i := 14) (v := .agg (vcells a1_0 a1_1 a1_2 a1_3 a1_4 a1_5 a1_6 len1_6 cap1_6)) rfl rfl (by kernel_rfl) (by kernel_rfl) (by kernel_rfl) (fun _ _ _ h => h) (Or.inl ⟨by kernel_rfl, fun w' hSw => ?_⟩) hHeld ?_
          · go_simp
          simp only [List.set_cons_succ, List.set_cons_zero]
          refine take_set (i := 16) (v := .bool false) rfl rfl (by kernel_rfl) (by kernel_rfl) (by kernel_rfl) (fun _ _ _ h => h) (Or.inl ⟨by kernel_rfl, fun w' hSw => ?_⟩) hHeld ?_
          · go_simp
          simp only [List.set_cons_succ, List.set_cons_zero]
          refine wpAnyH_ready (rs := [15]) (by kernel_rfl) (by simp) ?_
          refine AllReadyH.cons (o := _) rfl (fun K hK => ?_) AllReadyH.nil
          go_simp
          refine (bad_any _ _ _ _ _ _ _ _ _ _ _ _ _ _ _ _ _ _ _).mono ?_
          rintro e w' ⟨rfl, hbel⟩
          rw [hbad.out]
          replace hbc := hide (hbc.out.trans (hbel.mono hbc.out.size))
          clear hbel
          refine hK.out _ _ (hcs.out _ hbc.out) (fun hHeld => ?_)
          clear hK K
          refine take_set (i := 17) (v := .bool false) rfl rfl (by kernel_rfl) (by kernel_rfl) (by kernel_rfl) (fun _ _ _ h => h) (Or.inl ⟨by kernel_rfl, fun w' hSw => ?_⟩) hHeld ?_
          · go_simp
          simp only [List.set_cons_succ, List.set_cons_zero]
          refine take_set (i := 18) (v := .bool true) rfl rfl (by kernel_rfl) (by kernel_rfl) (by kernel_rfl) (fun _ _ _ h => h) (Or.inl ⟨by kernel_rfl, fun w' hSw => ?_⟩) hHeld ?_
          · go_simp
          simp only [List.set_cons_succ, List.set_cons_zero]
          refine take_set (i := 19) (v := .bool true) rfl rfl (by kernel_rfl) (by kernel_rfl) (by kernel_rfl) (fun _ _ _ h => h) (Or.inl ⟨by kernel_rfl, fun w' hSw => ?_⟩) hHeld ?_
          · go_simp
          simp only [List.set_cons_succ, List.set_cons_zero]
          refine take_set (i := 20) (v := .bool true) rfl rfl (by kernel_rfl) (by kernel_rfl) (by kernel_rfl) (fun _ _ _ h => h) (Or.inl ⟨by kernel_rfl, fun w' hSw => ?_⟩) hHeld ?_
          · go_simp
          simp only [List.set_cons_succ, List.set_cons_zero]
          refine take_set (i := 21) (v := undef) rfl rfl (by kernel_rfl) (by kernel_rfl) (by kernel_rfl) (fun _ _ _ h => h) (Or.inr ⟨by kernel_rfl, rfl⟩) hHeld ?_
          simp only [List.set_cons_succ, List.set_cons_zero]
          refine take_set (i := 22) (v := .bool true) rfl rfl (by kernel_rfl) (by kernel_rfl) (by kernel_rfl) (fun _ _ _ h => h) (Or.inl ⟨by kernel_rfl, fun w' hSw => ?_⟩) hHeld ?_
          · go_simp
          simp only [List.set_cons_succ, List.set_cons_zero]
          refine take_set (i := 23) (v := .bool true) rfl rfl (by kernel_rfl) (by kernel_rfl) (by kernel_rfl) (fun _ _ _ h => h) (Or.inl ⟨by kernel_rfl, fun w' hSw => ?_⟩) hHeld ?_
          · go_simp
          simp only [List.set_cons_succ, List.set_cons_zero]
          refine take_set (i := 24) (v := .bool true) rfl rfl (by kernel_rfl) (by kernel_rfl) (by kernel_rfl) (fun _ _ _ h => h) (Or.inl ⟨by kernel_rfl, fun w' hSw => ?_⟩) hHeld ?_
          · go_simp
          simp only [List.set_cons_succ, List.set_cons_zero]
          refine take_set (i := 25) (v := .bool true) rfl rfl (by kernel_rfl) (by kernel_rfl) (by kernel_rfl) (fun _ _ _ h => h) (Or.inl ⟨by kernel_rfl, fun w' hSw => ?_⟩) hHeld ?_
          · go_simp
          simp only [List.set_cons_succ, List.set_cons_zero]
          refine take_set (i := 26) (v := .agg (vcells a1_0 a1_1 a1_2 a1_3 a1_4 a1_5 a1_6 len1_6 cap1_6)) rfl rfl (by kernel_rfl) (by kernel_rfl) (by kernel_rfl) (fun _ _ _ h => h) (Or.inl ⟨by kernel_rfl, fun w' hSw => ?_⟩) hHeld ?_
          · go_simp
          simp only [List.set_cons_succ, List.set_cons_zero]
          refine take_set (i := 27) (v := .agg (vcells a0_0 a0_1 a0_2 a0_3 a0_4 a0_5 a0_6 len0_6 cap0_6)) rfl rfl (by kernel_rfl) (by kernel_rfl) (by kernel_rfl) (fun _ _ _ h => h) (Or.inl ⟨by kernel_rfl, fun w' hSw => ?_⟩) hHeld ?_
          · go_simp
          simp only [List.set_cons_succ, List.set_cons_zero]
          refine take_set (i := 29) (v := .agg (vcells a0_0 a0_1 a0_2 a0_3 a0_4 a0_5 a0_6 len0_6 cap0_6)) rfl rfl (by kernel_rfl) (by kernel_rfl) (by kernel_rfl) (fun _ _ _ h => h) (Or.inl ⟨by kernel_rfl, fun w' hSw => ?_⟩) hHeld ?_
          · go_simp
          simp only [List.set_cons_succ, List.set_cons_zero]
          refine take_set (i := 30) (v := .agg (vcells a1_0 a1_1 a1_2 a1_3 a1_4 a1_5 a1_6 len1_6 cap1_6)) rfl rfl (by kernel_rfl) (by kernel_rfl) (by kernel_rfl) (fun _ _ _ h => h) (Or.inl ⟨by kernel_rfl, fun w' hSw => ?_⟩) hHeld ?_
          · go_simp
          simp only [List.set_cons_succ, List.set_cons_zero]
          refine wpAnyH_ready (rs := [28]) (by kernel_rfl) (by simp) ?_
          refine AllReadyH.cons (o := _) rfl (fun K hK => ?_) AllReadyH.nil
          go_simp
          refine (bad_any _ _ _ _ _ _ _ _ _ _ _ _ _ _ _ _ _ _ _).mono ?_
          rintro e w' ⟨rfl, hbel⟩
          rw [hbad2.out]
          replace hbc := hide (hbc.out.trans (hbel.mono hbc.out.size))
          clear hbel
          refine hK.out _ _ (hcs.out _ hbc.out) (fun hHeld => ?_)
          clear hK K
          refine wpAnyH_ready (rs := [31]) (by kernel_rfl) (by simp) ?_
          refine AllReadyH.cons (o := _) rfl (fun K hK => ?_) AllReadyH.nil
          go_simp
          refine (bad_any _ _ _ _ _ _ _ _ _ _ _ _ _ _ _ _ _ _ _).mono ?_
          rintro e w' ⟨rfl, hbel⟩
          rw [hbad.out]
          replace hbc := hide (hbc.out.trans (hbel.mono hbc.out.size))
          clear hbel
          refine hK.out _ _ (hcs.out _ hbc.out) (fun hHeld => ?_)
          clear hK K
          refine take_set (i := 32) (v := .bool true) rfl rfl (by kernel_rfl) (by kernel_rfl) (by kernel_rfl) (fun _ _ _ h => h) (Or.inl ⟨by kernel_rfl, fun w' hSw => ?_⟩) hHeld ?_
          · go_simp
          simp only [List.set_cons_succ, List.set_cons_zero]
          refine take_set (i := 33) (v := .bool true) rfl rfl (by kernel_rfl) (by kernel_rfl) (by kernel_rfl) (fun _ _ _ h => h) (Or.inl ⟨by kernel_rfl, fun w' hSw => ?_⟩) hHeld ?_
          · go_simp
          simp only [List.set_cons_succ, List.set_cons_zero]
          refine take_set (i := 34) (v := .bool true) rfl rfl (by kernel_rfl) (by kernel_rfl) (by kernel_rfl) (fun _ _ _ h => h) (Or.inl ⟨by kernel_rfl, fun w' hSw => ?_⟩) hHeld ?_
          · go_simp
          simp only [List.set_cons_succ, List.set_cons_zero]
          refine take_set (i := 35) (v := .agg (vcells a0_0 a0_1 a0_2 a0_3 a0_4 a0_5 a0_6 len0_6 cap0_6)) rfl rfl (by kernel_rfl) (by kernel_rfl) (by kernel_rfl) (fun _ _ _ h => h) (Or.inl ⟨by kernel_rfl, fun w' hSw => ?_⟩) hHeld ?_
          · go_simp
          simp only [List.set_cons_succ, List.set_cons_zero]
          refine take_set (i := 36) (v := .agg (vcells a0_0 a0_1 a0_2 a0_3 a0_4 a0_5 a0_6 len0_6 cap0_6)) rfl rfl (by kernel_rfl) (by kernel_rfl) (by kernel_rfl) (fun _ _ _ h => h) (Or.inl ⟨by kernel_rfl, fun w' hSw => ?_⟩) hHeld ?_
          · go_simp
          simp only [List.set_cons_succ, List.set_cons_zero]
          refine wpAnyH_ready (rs := [37]) (by kernel_rfl) (by simp) ?_
          refine AllReadyH.cons (o := _) rfl (fun K hK => ?_) AllReadyH.nil
          go_simp
          refine (bad_any _ _ _ _ _ _ _ _ _ _ _ _ _ _ _ _ _ _ _).mono ?_
          rintro e w' ⟨rfl, hbel⟩
          rw [badB_self]
          replace hbc := hide (hbc.out.trans (hbel.mono hbc.out.size))
          clear hbel
          refine hK.out _ _ (hcs.out _ hbc.out) (fun hHeld => ?_)
          clear hK K
          refine take_set (i := 38) (v := .bool true) rfl rfl (by kernel_rfl) (by kernel_rfl) (by kernel_rfl) (fun _ _ _ h => h) (Or.inl ⟨by kernel_rfl, fun w' hSw => ?_⟩) hHeld ?_
          · go_simp
          simp only [List.set_cons_succ, List.set_cons_zero]
          refine take_set (i := 39) (v := .bool true) rfl rfl (by kernel_rfl) (by kernel_rfl) (by kernel_rfl) (fun _ _ _ h => h) (Or.inl ⟨by kernel_rfl, fun w' hSw => ?_⟩) hHeld ?_
          · go_simp
          simp only [List.set_cons_succ, List.set_cons_zero]
          refine take_set (i := 40) (v := .bool true) rfl rfl (by kernel_rfl) (by kernel_rfl) (by kernel_rfl) (fun _ _ _ h => h) (Or.inl ⟨by kernel_rfl, fun w' hSw => ?_⟩) hHeld ?_
          · go_simp
          simp only [List.set_cons_succ, List.set_cons_zero]
          refine wpAnyH_done (by kernel_rfl) ?_ _
          refine NoPanic.normal ?_
          go_wp2
          go_ret
          exact ⟨rfl, HN1.out.trans (hbc.out.mono HN1.out.size)⟩
        · exact (hno3.out rfl rfl).elim
        · cases hbd
          clear hno hno2 hno3
          refine take_set (i := 0) (v := .agg (vcells a0_0 a0_1 a0_2 a0_3 a0_4 a0_5 a0_6 len0_6 cap0_6)) rfl rfl (by kernel_rfl) (by kernel_rfl) (by kernel_rfl) (fun _ _ _ h => h) (Or.inl ⟨by kernel_rfl, fun w' hSw => ?_⟩) hHeld ?_
          · go_simp
          simp only [List.set_cons_succ, List.set_cons_zero]
          refine take_set (i := 1) (v := .agg (vcells a1_0 a1_1 a1_2 a1_3 a1_4 a1_5 a1_6 len1_6 cap1_6)) rfl rfl (by kernel_rfl) (by kernel_rfl) (by kernel_rfl) (fun _ _ _ h => h) (Or.inl ⟨by kernel_rfl, fun w' hSw => ?_⟩) hHeld ?_
          · go_simp
          simp only [List.set_cons_succ, List.set_cons_zero]
          refine take_set (i := 3) (v := .bool true) rfl rfl (by kernel_rfl) (by kernel_rfl) (by kernel_rfl) (fun _ _ _ h => h) (Or.inl ⟨by kernel_rfl, fun w' hSw => ?_⟩) hHeld ?_
          · go_simp
          simp only [List.set_cons_succ, List.set_cons_zero]
          refine wpAnyH_ready (rs := [2]) (by kernel_rfl) (by simp) ?_
          refine AllReadyH.cons (o := _) rfl (fun K hK => ?_) AllReadyH.nil
          go_simp
          refine (double_any _ _ _ _ _ _ _ _ _ _ _ _ _ _ _ _ _ _ _).mono ?_
          rintro e w' ⟨rfl, hbel⟩
          rw [hd.out]
          replace hbc := hide (hbc.out.trans (hbel.mono hbc.out.size))
          clear hbel
          refine hK.out _ _ (hcs.out _ hbc.out) (fun hHeld => ?_)
          clear hK K
          refine take_set (i := 4) (v := .bool true) rfl rfl (by kernel_rfl) (by kernel_rfl) (by kernel_rfl) (fun _ _ _ h => h) (Or.inl ⟨by kernel_rfl, fun w' hSw => ?_⟩) hHeld ?_
          · go_simp
          simp only [List.set_cons_succ, List.set_cons_zero]
          refine take_set (i := 5) (v := .bool true) rfl rfl (by kernel_rfl) (by kernel_rfl) (by kernel_rfl) (fun _ _ _ h => h) (Or.inl ⟨by kernel_rfl, fun w' hSw => ?_⟩) hHeld ?_
          · go_simp
          simp only [List.set_cons_succ, List.set_cons_zero]
          refine take_set (i := 6) (v := .agg (vcells a0_0 a0_1 a0_2 a0_3 a0_4 a0_5 a0_6 len0_6 cap0_6)) rfl rfl (by kernel_rfl) (by kernel_rfl) (by kernel_rfl) (fun _ _ _ h => h) (Or.inl ⟨by kernel_rfl, fun w' hSw => ?_⟩) hHeld ?_
          · go_simp
          simp only [List.set_cons_succ, List.set_cons_zero]
          refine take_set (i := 7) (v := .agg (vcells a1_0 a1_1 a1_2 a1_3 a1_4 a1_5 a1_6 len1_6 cap1_6)) rfl rfl (by kernel_rfl) (by kernel_rfl) (by kernel_rfl) (fun _ _ _ h => h) (Or.inl ⟨by kernel_rfl, fun w' hSw => ?_⟩) hHeld ?_
          · go_simp
          simp only [List.set_cons_succ, List.set_cons_zero]
          refine take_set (i := 9) (v := .bool false) rfl rfl (by kernel_rfl) (by kernel_rfl) (by kernel_rfl) (fun _ _ _ h => h) (Or.inl ⟨by kernel_rfl, fun w' hSw => ?_⟩) hHeld ?_
          · go_simp
          simp only [List.set_cons_succ, List.set_cons_zero]
          refine wpAnyH_ready (rs := [8]) (by kernel_rfl) (by simp) ?_
          refine AllReadyH.cons (o := _) rfl (fun K hK => ?_) AllReadyH.nil
          go_simp
          refine (around_any _ _ _ _ _ _ _ _ _ _ _ _ _ _ _ _ _ _ _).mono ?_
          rintro e w' ⟨rfl, hbel⟩
          rw [har.out]
          replace hbc := hide (hbc.out.trans (hbel.mono hbc.out.size))
          clear hbel
          refine hK.out _ _ (hcs.out _ hbc.out) (fun hHeld => ?_)
          clear hK K
          refine take_set (i := 10) (v := .bool true) rfl rfl (by kernel_rfl) (by kernel_rfl) (by kernel_rfl) (fun _ _ _ h => h) (Or.inl ⟨by kernel_rfl, fun w' hSw => ?_⟩) hHeld ?_
          · go_simp
          simp only [List.set_cons_succ, List.set_cons_zero]
          refine take_set (i := 11) (v := .bool true) rfl rfl (by kernel_rfl) (by kernel_rfl) (by kernel_rfl) (fun _ _ _ h => h) (Or.inl ⟨by kernel_rfl, fun w' hSw => ?_⟩) hHeld ?_
          · go_simp
          simp only [List.set_cons_succ, List.set_cons_zero]
          refine take_set (i := 12) (v := .bool true) rfl rfl (by kernel_rfl) (by kernel_rfl) (by kernel_rfl) (fun _ _ _ h => h) (Or.inl ⟨by kernel_rfl, fun w' hSw => ?_⟩) hHeld ?_
          · go_simp
          simp only [List.set_cons_succ, List.set_cons_zero]
          refine take_set (i := 13) (v := .agg (vcells a0_0 a0_1 a0_2 a0_3 a0_4 a0_5 a0_6 len0_6 cap0_6)) rfl rfl (by kernel_rfl) (by kernel_rfl) (by kernel_rfl) (fun _ _ _ h => h) (Or.inl ⟨by kernel_rfl, fun w' hSw => ?_⟩) hHeld ?_
          · go_simp
          simp only [List.set_cons_succ, List.set_cons_zero]
          refine take_set (i := 14) (v := .agg (vcells a1_0 a1_1 a1_2 a1_3 a1_4 a1_5 a1_6 len1_6 cap1_6)) rfl rfl (by kernel_rfl) (by kernel_rfl) (by kernel_rfl) (fun _ _ _ h => h) (Or.inl ⟨by kernel_rfl, fun w' hSw => ?_⟩) hHeld ?_
          · go_simp
          simp only [List.set_cons_succ, List.set_cons_zero]
          refine take_set (i := 16) (v := .bool true) rfl rfl (by kernel_rfl) (by kernel_rfl) (by kernel_rfl) (fun _ _ _ h => h) (Or.inl ⟨by kernel_rfl, fun w' hSw => ?_⟩) hHeld ?_
          · go_simp
          simp only [List.set_cons_succ, List.set_cons_zero]
          refine wpAnyH_ready (rs := [15]) (by kernel_rfl) (by simp) ?_
          refine AllReadyH.cons (o := _) rfl (fun K hK => ?_) AllReadyH.nil
          go_simp
          refine (bad_any _ _ _ _ _ _ _ _ _ _ _ _ _ _ _ _ _ _ _).mono ?_
          rintro e w' ⟨rfl, hbel⟩
          rw [hbad.out]
          replace hbc := hide (hbc.out.trans (hbel.mono hbc.out.size))
          clear hbel
          refine hK.out _ _ (hcs.out _ hbc.out) (fun hHeld => ?_)
          clear hK K
          refine take_set (i := 17) (v := .bool true) rfl rfl (by kernel_rfl) (by kernel_rfl) (by kernel_rfl) (fun _ _ _ h => h) (Or.inl ⟨by kernel_rfl, fun w' hSw => ?_⟩) hHeld ?_
          · go_simp
          simp only [List.set_cons_succ, List.set_cons_zero]
          refine take_set (i := 18) (v := undef) rfl rfl (by kernel_rfl) (by kernel_rfl) (by kernel_rfl) (fun _ _ _ h => h) (Or.inr ⟨by kernel_rfl, rfl⟩) hHeld ?_
          simp only [List.set_cons_succ, List.set_cons_zero]
          refine take_set (i := 19) (v := .bool true) rfl rfl (by kernel_rfl) (by kernel_rfl) (by kernel_rfl) (fun _ _ _ h => h) (Or.inl ⟨by kernel_rfl, fun w' hSw => ?_⟩) hHeld ?_
          · go_simp
          simp only [List.set_cons_succ, List.set_cons_zero]
          refine take_set (i := 20) (v := .bool true) rfl rfl (by kernel_rfl) (by kernel_rfl) (by kernel_rfl) (fun _ _ _ h => h) (Or.inl ⟨by kernel_rfl, fun w' hSw => ?_⟩) hHeld ?_
          · go_simp
          simp only [List.set_cons_succ, List.set_cons_zero]
          refine take_set (i := 21) (v := undef) rfl rfl (by kernel_rfl) (by kernel_rfl) (by kernel_rfl) (fun _ _ _ h => h) (Or.inr ⟨by kernel_rfl, rfl⟩) hHeld ?_
          simp only [List.set_cons_succ, List.set_cons_zero]
          refine take_set (i := 22) (v := .bool true) rfl rfl (by kernel_rfl) (by kernel_rfl) (by kernel_rfl) (fun _ _ _ h => h) (Or.inl ⟨by kernel_rfl, fun w' hSw => ?_⟩) hHeld ?_
          · go_simp
          simp only [List.set_cons_succ, List.set_cons_zero]
          refine take_set (i := 23) (v := .bool true) rfl rfl (by kernel_rfl) (by kernel_rfl) (by kernel_rfl) (fun _ _ _ h => h) (Or.inl ⟨by kernel_rfl, fun w' hSw => ?_⟩) hHeld ?_
          · go_simp
          simp only [List.set_cons_succ, List.set_cons_zero]
          refine take_set (i := 24) (v := .bool true) rfl rfl (by kernel_rfl) (by kernel_rfl) (by kernel_rfl) (fun _ _ _ h => h) (Or.inl ⟨by kernel_rfl, fun w' hSw => ?_⟩) hHeld ?_
          · go_simp
          simp only [List.set_cons_succ, List.set_cons_zero]
          refine take_set (i := 25) (v := .bool true) rfl rfl (by kernel_rfl) (by kernel_rfl) (by kernel_rfl) (fun _ _ _ h => h) (Or.inl ⟨by kernel_rfl, fun w' hSw => ?_⟩) hHeld ?_
          · go_simp
          simp only [List.set_cons_succ, List.set_cons_zero]
          refine take_set (i := 26) (v := .agg (vcells a1_0 a1_1 a1_2 a1_3 a1_4 a1_5 a1_6 len1_6 cap1_6)) rfl rfl (by kernel_rfl) (by kernel_rfl) (by kernel_rfl) (fun _ _ _ h => h) (Or.inl ⟨by kernel_rfl, fun w' hSw => ?_⟩) hHeld ?_
          · go_simp
          simp only [List.set_cons_succ, List.set_cons_zero]
          refine take_set (i := 27) (v := .agg (vcells a0_0 a0_1 a0_2 a0_3 a0_4 a0_5 a0_6 len0_6 cap0_6)) rfl rfl (by kernel_rfl) (by kernel_rfl) (by kernel_rfl) (fun _ _ _ h => h) (Or.inl ⟨by kernel_rfl, fun w' hSw => ?_⟩) hHeld ?_
          · go_simp
          simp only [List.set_cons_succ, List.set_cons_zero]
          refine take_set (i := 29) (v := .agg (vcells a0_0 a0_1 a0_2 a0_3 a0_4 a0_5 a0_6 len0_6 cap0_6)) rfl rfl (by kernel_rfl) (by kernel_rfl) (by kernel_rfl) (fun _ _ _ h => h) (Or.inl ⟨by kernel_rfl, fun w' hSw => ?_⟩) hHeld ?_
          · go_simp
          simp only [List.set_cons_succ, List.set_cons_zero]
          refine take_set (i := 30) (v := .agg (vcells a1_0 a1_1 a1_2 a1_3 a1_4 a1_5 a1_6 len1_6 cap1_6)) rfl rfl (by kernel_rfl) (by kernel_rfl) (by kernel_rfl) (fun _ _ _ h => h) (Or.inl ⟨by kernel_rfl, fun w' hSw => ?_⟩) hHeld ?_
          · go_simp
          simp only [List.set_cons_succ, List.set_cons_zero]
          refine wpAnyH_ready (rs := [28]) (by kernel_rfl) (by simp) ?_
          refine AllReadyH.cons (o := _) rfl (fun K hK => ?_) AllReadyH.nil
          go_simp
          refine (bad_any _ _ _ _ _ _ _ _ _ _ _ _ _ _ _ _ _ _ _).mono ?_
          rintro e w' ⟨rfl, hbel⟩
          rw [hbad2.out]
          replace hbc := hide (hbc.out.trans (hbel.mono hbc.out.size))
          clear hbel
          refine hK.out _ _ (hcs.out _ hbc.out) (fun hHeld => ?_)
          clear hK K
          refine wpAnyH_ready (rs := [31]) (by kernel_rfl) (by simp) ?_
          refine AllReadyH.cons (o := _) rfl (fun K hK => ?_) AllReadyH.nil
          go_simp
          refine (bad_any _ _ _ _ _ _ _ _ _ _ _ _ _ _ _ _ _ _ _).mono ?_
          rintro e w' ⟨rfl, hbel⟩
          rw [hbad.out]
          replace hbc := hide (hbc.out.trans (hbel.mono hbc.out.size))
          clear hbel
          refine hK.out _ _ (hcs.out _ hbc.out) (fun hHeld => ?_)
          clear hK K
          refine take_set (i := 32) (v := .bool true) rfl rfl (by kernel_rfl) (by kernel_rfl) (by kernel_rfl) (fun _ _ _ h => h) (Or.inl ⟨by kernel_rfl, fun w' hSw => ?_⟩) hHeld ?_
          · go_simp
          simp only [List.set_cons_succ, List.set_cons_zero]
          refine take_set (i := 33) (v := .bool true) rfl rfl (by kernel_rfl) (by kernel_rfl) (by kernel_rfl) (fun _ _ _ h => h) (Or.inl ⟨by kernel_rfl, fun w' hSw => ?_⟩) hHeld ?_
          · go_simp
          simp only [List.set_cons_succ, List.set_cons_zero]
          refine take_set (i := 34) (v := .bool true) rfl rfl (by kernel_rfl) (by kernel_rfl) (by kernel_rfl) (fun _ _ _ h => h) (Or.inl ⟨by kernel_rfl, fun w' hSw => ?_⟩) hHeld ?_
          · go_simp
          simp only [List.set_cons_succ, List.set_cons_zero]
          refine take_set (i := 35) (v := .agg (vcells a0_0 a0_1 a0_2 a0_3 a0_4 a0_5 a0_6 len0_6 cap0_6)) rfl rfl (by kernel_rfl) (by kernel_rfl) (by kernel_rfl) (fun _ _ _ h => h) (Or.inl ⟨by kernel_rfl, fun w' hSw => ?_⟩) hHeld ?_
          · go_simp
          simp only [List.set_cons_succ, List.set_cons_zero]
          refine take_set (i := 36) (v := .agg (vcells a0_0 a0_1 a0_2 a0_3 a0_4 a0_5 a0_6 len0_6 cap0_6)) rfl rfl (by kernel_rfl) (by kernel_rfl) (by kernel_rfl) (fun _ _ _ h => h) (Or.inl ⟨by kernel_rfl, fun w' hSw => ?_⟩) hHeld ?_
          · go_simp
          simp only [List.set_cons_succ, List.set_cons_zero]
          refine wpAnyH_ready (rs := [37]) (by kernel_rfl) (by simp) ?_
          refine AllReadyH.cons (o := _) rfl (fun K hK => ?_) AllReadyH.nil
          go_simp
          refine (bad_any _ _ _ _ _ _ _ _ _ _ _ _ _ _ _ _ _ _ _).mono ?_
          rintro e w' ⟨rfl, hbel⟩
          rw [badB_self]
          replace hbc := hide (hbc.out.trans (hbel.mono hbc.out.size))
          clear hbel
          refine hK.out _ _ (hcs.out _ hbc.out) (fun hHeld => ?_)
          clear hK K
          refine take_set (i := 38) (v := .bool true) rfl rfl (by kernel_rfl) (by kernel_rfl) (by kernel_rfl) (fun _ _ _ h => h) (Or.inl ⟨by kernel_rfl, fun w' hSw => ?_⟩) hHeld ?_
          · go_simp
          simp only [List.set_cons_succ, List.set_cons_zero]
          refine take_set (i := 39) (v := .bool true) rfl rfl (by kernel_rfl) (by kernel_rfl) (by kernel_rfl) (fun _ _ _ h => h) (Or.inl ⟨by kernel_rfl, fun w' hSw => ?_⟩) hHeld ?_
          · go_simp
          simp only [List.set_cons_succ, List.set_cons_zero]
          refine take_set (i := 40) (v := .bool true) rfl rfl (by kernel_rfl) (by kernel_rfl) (by kernel_rfl) (fun _ _ _ h => h) (Or.inl ⟨by kernel_rfl, fun w' hSw => ?_⟩) hHeld ?_
          · go_simp
          simp only [List.set_cons_succ, List.set_cons_zero]
          refine wpAnyH_done (by kernel_rfl) ?_ _
          refine NoPanic.normal ?_
          go_wp2
          go_ret
          exact ⟨rfl, HN1.out.trans (hbc.out.mono HN1.out.size)⟩
        · exact (hno2.out rfl rfl).elim
        · exact (hno.out rfl rfl).elim
        · exact (hno.out rfl rfl).elim

set_option maxRecDepth 100000 in
theorem lifted (os : Os) (started : os.Started) (H : Type) (enc : TypeId × Value → H) :
    ReturnsInHanded {} Try.checked os 3 .any (Rows.slashBadSpec.pre6 enc Try.prog Try.f3 Rows.slashBadRow.domain false) (Rows.slashBadSpec.post enc Try.prog Try.f3 false true false false) := by
  refine returnsInHanded_of_change (C := Try.checked) own started (by kernel_rfl) Try.func3
    (ChangeSpec.witness6 (enc := enc) (C := Try.checked) false ⟨#[], #[.agg #[.int .i64 0, .int .u64 0, .int .i64 0, .int .u64 0, .int .i64 0, .int .u64 0, .slice none 0 0], .agg #[.int .i64 0, .int .u64 0, .int .i64 0, .int .u64 0, .int .i64 0, .int .u64 0, .slice none 0 0]], []⟩ 8 (by kernel_rfl) (by kernel_rfl) (by kernel_rfl) (by kernel_rfl)) ?_
  intro W base args ds gs before hval0 hW hcnd _
  have hval : ∀ (j : Nat) t v, Try.f3.params[j]? = some t → args[j]? = some v → Value.okWide Try.prog W .any base t v := hval0
  have hW' := hW
  obtain ⟨p, q, hA0, hV, rfl, hfz, hnd⟩ := hW
  have hA : DataW.TrodAll enc Try.prog W 0 (fun _ => true) true Try.f3.params.toList args.toList ds p := hA0
  rw [Try.params3] at hA hval
  obtain ⟨v0, vs0, d0, ds0, p0, q0, hargs, rfl, rfl, h0, r0⟩ := trodAll_cons hA
  obtain ⟨v1, vs1, d1, ds1, p1, q1, rfl, rfl, rfl, h1, r1⟩ := trodAll_cons r0
  obtain ⟨rfl, rfl, rfl⟩ := trodAll_nil r1
  obtain rfl : args = #[v0, v1] := by cases args; simp_all
  obtain ⟨rfl, rfl⟩ := trodVars_none hV
  obtain ⟨cs0, rfl, sz0⟩ := okWide_struct Try.underlying27 (hval 0 27 v0 rfl rfl)
  rw [cells27] at sz0
  obtain ⟨l0⟩ := cs0
  obtain ⟨c0_0, c0_1, c0_2, c0_3, c0_4, c0_5, c0_6, rfl⟩ := list7 (show l0.length = 7 from sz0)
  clear sz0
  have k0 := h0
  have lt0 : ∀ x ∈ p0, x.block < W.heap.size := by obtain ⟨m, hm⟩ := k0; exact DataW.trod_lt m _ _ _ hm
  obtain ⟨fuel0, hf0⟩ := h0
  simp only [Value.cells] at hf0
  obtain ⟨xs0_0t27, n0_0t27, _, hx0_0t27, _, hlen0_0t27, hf0_0t27⟩ := DataW.trod_struct Try.underlying27 hf0
  obtain ⟨y0_0t27_0, y0_0t27_1, y0_0t27_2, y0_0t27_3, y0_0t27_4, rfl⟩ := list5 (show xs0_0t27.length = 5 from hlen0_0t27)
  have hy0_0t27_0 : DataW.trod enc Try.prog W 0 (fun _ => true) true n0_0t27 3 [c0_0] = some y0_0t27_0 := by simpa [Value.cells, cells3, cells4, cells22, cells24, cells25, cells27] using hf0_0t27 0 _ rfl
  have hy0_0t27_1 : DataW.trod enc Try.prog W 0 (fun _ => true) true n0_0t27 22 [c0_1] = some y0_0t27_1 := by simpa [Value.cells, cells3, cells4, cells22, cells24, cells25, cells27] using hf0_0t27 1 _ rfl
  have hy0_0t27_2 : DataW.trod enc Try.prog W 0 (fun _ => true) true n0_0t27 24 [c0_2, c0_3] = some y0_0t27_2 := by simpa [Value.cells, cells3, cells4, cells22, cells24, cells25, cells27] using hf0_0t27 2 _ rfl
  have hy0_0t27_3 : DataW.trod enc Try.prog W 0 (fun _ => true) true n0_0t27 24 [c0_4, c0_5] = some y0_0t27_3 := by simpa [Value.cells, cells3, cells4, cells22, cells24, cells25, cells27] using hf0_0t27 3 _ rfl
  have hy0_0t27_4 : DataW.trod enc Try.prog W 0 (fun _ => true) true n0_0t27 25 [c0_6] = some y0_0t27_4 := by simpa [Value.cells, cells3, cells4, cells22, cells24, cells25, cells27] using hf0_0t27 4 _ rfl
  obtain ⟨a0_0, e0_0, x0_0, w0_0⟩ := DataW.trod_int Try.underlying3 hy0_0t27_0
  simp at e0_0
  subst e0_0
  obtain ⟨a0_1, e0_1, x0_1, w0_1⟩ := DataW.trod_int Try.underlying22 hy0_0t27_1
  simp at e0_1
  subst e0_1
  obtain ⟨xs0_2t24, n0_2t24, _, hx0_2t24, _, hlen0_2t24, hf0_2t24⟩ := DataW.trod_struct Try.underlying24 hy0_0t27_2
  obtain ⟨y0_2t24_0, y0_2t24_1, rfl⟩ := list2 (show xs0_2t24.length = 2 from hlen0_2t24)
  have hy0_2t24_0 : DataW.trod enc Try.prog W 0 (fun _ => true) true n0_2t24 3 [c0_2] = some y0_2t24_0 := by simpa [Value.cells, cells3, cells4, cells22, cells24, cells25, cells27] using hf0_2t24 0 _ rfl
  have hy0_2t24_1 : DataW.trod enc Try.prog W 0 (fun _ => true) true n0_2t24 22 [c0_3] = some y0_2t24_1 := by simpa [Value.cells, cells3, cells4, cells22, cells24, cells25, cells27] using hf0_2t24 1 _ rfl
  obtain ⟨a0_2, e0_2, x0_2, w0_2⟩ := DataW.trod_int Try.underlying3 hy0_2t24_0
  simp at e0_2
  subst e0_2
  obtain ⟨a0_3, e0_3, x0_3, w0_3⟩ := DataW.trod_int Try.underlying22 hy0_2t24_1
  simp at e0_3
  subst e0_3
  obtain ⟨xs0_4t24, n0_4t24, _, hx0_4t24, _, hlen0_4t24, hf0_4t24⟩ := DataW.trod_struct Try.underlying24 hy0_0t27_3
  obtain ⟨y0_4t24_0, y0_4t24_1, rfl⟩ := list2 (show xs0_4t24.length = 2 from hlen0_4t24)
  have hy0_4t24_0 : DataW.trod enc Try.prog W 0 (fun _ => true) true n0_4t24 3 [c0_4] = some y0_4t24_0 := by simpa [Value.cells, cells3, cells4, cells22, cells24, cells25, cells27] using hf0_4t24 0 _ rfl
  have hy0_4t24_1 : DataW.trod enc Try.prog W 0 (fun _ => true) true n0_4t24 22 [c0_5] = some y0_4t24_1 := by simpa [Value.cells, cells3, cells4, cells22, cells24, cells25, cells27] using hf0_4t24 1 _ rfl
  obtain ⟨a0_4, e0_4, x0_4, w0_4⟩ := DataW.trod_int Try.underlying3 hy0_4t24_0
  simp at e0_4
  subst e0_4
  obtain ⟨a0_5, e0_5, x0_5, w0_5⟩ := DataW.trod_int Try.underlying22 hy0_4t24_1
  simp at e0_5
  subst e0_5
  obtain ⟨a0_6, len0_6, cap0_6, z0_6, e0_6, w0_6⟩ : ∃ a len cap zs, c0_6 = .slice a len cap ∧ IsRow .i64 W a len cap zs := by
    rcases open_ints Try.underlying25 Try.underlying3 (by kernel_rfl) hy0_0t27_4 with ⟨hcs, _⟩ | ⟨x, l, c, zs, hcs, _, hl, hm, hz, _, hcell, hwz⟩
    · simp at hcs
      exact ⟨none, 0, 0, [], hcs, .inl ⟨rfl, rfl, rfl, rfl⟩⟩
    · simp at hcs
      exact ⟨_, _, _, zs, hcs, .inr ⟨_, rfl, hl, hm, by simpa using hz, hcell, hwz⟩⟩
  subst e0_6
  obtain ⟨cs1, rfl, sz1⟩ := okWide_struct Try.underlying27 (hval 1 27 v1 rfl rfl)
  rw [cells27] at sz1
  obtain ⟨l1⟩ := cs1
  obtain ⟨c1_0, c1_1, c1_2, c1_3, c1_4, c1_5, c1_6, rfl⟩ := list7 (show l1.length = 7 from sz1)
  clear sz1
  have k1 := h1
  have lt1 : ∀ x ∈ p1, x.block < W.heap.size := by obtain ⟨m, hm⟩ := k1; exact DataW.trod_lt m _ _ _ hm
  obtain ⟨fuel1, hf1⟩ := h1
  simp only [Value.cells] at hf1
  obtain ⟨xs1_0t27, n1_0t27, _, hx1_0t27, _, hlen1_0t27, hf1_0t27⟩ := DataW.trod_struct Try.underlying27 hf1
  obtain ⟨y1_0t27_0, y1_0t27_1, y1_0t27_2, y1_0t27_3, y1_0t27_4, rfl⟩ := list5 (show xs1_0t27.length = 5 from hlen1_0t27)
  have hy1_0t27_0 : DataW.trod enc Try.prog W 0 (fun _ => true) true n1_0t27 3 [c1_0] = some y1_0t27_0 := by simpa [Value.cells, cells3, cells4, cells22, cells24, cells25, cells27] using hf1_0t27 0 _ rfl
  have hy1_0t27_1 : DataW.trod enc Try.prog W 0 (fun _ => true) true n1_0t27 22 [c1_1] = some y1_0t27_1 := by simpa [Value.cells, cells3, cells4, cells22, cells24, cells25, cells27] using hf1_0t27 1 _ rfl
  have hy1_0t27_2 : DataW.trod enc Try.prog W 0 (fun _ => true) true n1_0t27 24 [c1_2, c1_3] = some y1_0t27_2 := by simpa [Value.cells, cells3, cells4, cells22, cells24, cells25, cells27] using hf1_0t27 2 _ rfl
  have hy1_0t27_3 : DataW.trod enc Try.prog W 0 (fun _ => true) true n1_0t27 24 [c1_4, c1_5] = some y1_0t27_3 := by simpa [Value.cells, cells3, cells4, cells22, cells24, cells25, cells27] using hf1_0t27 3 _ rfl
  have hy1_0t27_4 : DataW.trod enc Try.prog W 0 (fun _ => true) true n1_0t27 25 [c1_6] = some y1_0t27_4 := by simpa [Value.cells, cells3, cells4, cells22, cells24, cells25, cells27] using hf1_0t27 4 _ rfl
  obtain ⟨a1_0, e1_0, x1_0, w1_0⟩ := DataW.trod_int Try.underlying3 hy1_0t27_0
  simp at e1_0
  subst e1_0
  obtain ⟨a1_1, e1_1, x1_1, w1_1⟩ := DataW.trod_int Try.underlying22 hy1_0t27_1
  simp at e1_1
  subst e1_1
  obtain ⟨xs1_2t24, n1_2t24, _, hx1_2t24, _, hlen1_2t24, hf1_2t24⟩ := DataW.trod_struct Try.underlying24 hy1_0t27_2
  obtain ⟨y1_2t24_0, y1_2t24_1, rfl⟩ := list2 (show xs1_2t24.length = 2 from hlen1_2t24)
  have hy1_2t24_0 : DataW.trod enc Try.prog W 0 (fun _ => true) true n1_2t24 3 [c1_2] = some y1_2t24_0 := by simpa [Value.cells, cells3, cells4, cells22, cells24, cells25, cells27] using hf1_2t24 0 _ rfl
  have hy1_2t24_1 : DataW.trod enc Try.prog W 0 (fun _ => true) true n1_2t24 22 [c1_3] = some y1_2t24_1 := by simpa [Value.cells, cells3, cells4, cells22, cells24, cells25, cells27] using hf1_2t24 1 _ rfl
  obtain ⟨a1_2, e1_2, x1_2, w1_2⟩ := DataW.trod_int Try.underlying3 hy1_2t24_0
  simp at e1_2
  subst e1_2
  obtain ⟨a1_3, e1_3, x1_3, w1_3⟩ := DataW.trod_int Try.underlying22 hy1_2t24_1
  simp at e1_3
  subst e1_3
  obtain ⟨xs1_4t24, n1_4t24, _, hx1_4t24, _, hlen1_4t24, hf1_4t24⟩ := DataW.trod_struct Try.underlying24 hy1_0t27_3
  obtain ⟨y1_4t24_0, y1_4t24_1, rfl⟩ := list2 (show xs1_4t24.length = 2 from hlen1_4t24)
  have hy1_4t24_0 : DataW.trod enc Try.prog W 0 (fun _ => true) true n1_4t24 3 [c1_4] = some y1_4t24_0 := by simpa [Value.cells, cells3, cells4, cells22, cells24, cells25, cells27] using hf1_4t24 0 _ rfl
  have hy1_4t24_1 : DataW.trod enc Try.prog W 0 (fun _ => true) true n1_4t24 22 [c1_5] = some y1_4t24_1 := by simpa [Value.cells, cells3, cells4, cells22, cells24, cells25, cells27] using hf1_4t24 1 _ rfl
  obtain ⟨a1_4, e1_4, x1_4, w1_4⟩ := DataW.trod_int Try.underlying3 hy1_4t24_0
  simp at e1_4
  subst e1_4
  obtain ⟨a1_5, e1_5, x1_5, w1_5⟩ := DataW.trod_int Try.underlying22 hy1_4t24_1
  simp at e1_5
  subst e1_5
  obtain ⟨a1_6, len1_6, cap1_6, z1_6, e1_6, w1_6⟩ : ∃ a len cap zs, c1_6 = .slice a len cap ∧ IsRow .i64 W a len cap zs := by
    rcases open_ints Try.underlying25 Try.underlying3 (by kernel_rfl) hy1_0t27_4 with ⟨hcs, _⟩ | ⟨x, l, c, zs, hcs, _, hl, hm, hz, _, hcell, hwz⟩
    · simp at hcs
      exact ⟨none, 0, 0, [], hcs, .inl ⟨rfl, rfl, rfl, rfl⟩⟩
    · simp at hcs
      exact ⟨_, _, _, zs, hcs, .inr ⟨_, rfl, hl, hm, by simpa using hz, hcell, hwz⟩⟩
  subst e1_6
  clear hA0 hval0
  refine (walk a0_0 a0_1 a0_2 a0_3 a0_4 a0_5 a0_6 len0_6 cap0_6 z0_6 a1_0 a1_1 a1_2 a1_3 a1_4 a1_5 a1_6 len1_6 cap1_6 z1_6 W w0_0 w0_1 w0_2 w0_3 w0_4 w0_5 w0_6 w1_0 w1_1 w1_2 w1_3 w1_4 w1_5 w1_6).mono fun e W' ⟨he, bel⟩ => ?_
  subst he
  exact ⟨_, rfl, _, _, _, [], _, [], hW', trodAll_mk1 (shut_bool Try.underlying4 _), (trodAll_cons_mk (Below.trod laidOut (by kernel_rfl) (of_decide_eq_true (by kernel_rfl)) k0 bel lt0) (trodAll_cons_mk (Below.trod laidOut (by kernel_rfl) (of_decide_eq_true (by kernel_rfl)) k1 bel lt1) trodAll_mk0)), rfl, bel.frame _, fun h => by cases h⟩

theorem over : Rows.slashBadRow.holds Try.pinned (OpenSpec.ofChange Rows.slashBadSpec) :=
  OpenClaim.holds_of_wide 3 Try.f3 rfl rfl rfl rfl rfl rfl rfl ⟨rfl, rfl, rfl, rfl, rfl⟩ rfl rfl rfl rfl rfl (by kernel_rfl) Try.func3 (by kernel_rfl)
    (of_decide_eq_true (by kernel_rfl)) (by unfold Func.isWrapper; first | (rw [if_pos (by decide +kernel)]; kernel_rfl) | (rw [if_neg (by decide +kernel)]; exact ⟨rfl, rfl⟩))
    (fun os started H enc _ => lifted os started H enc)

theorem proved : Rows.SlashBadSaid := over
end Go.Proofs.Ytbmajbbgfolmiaa.slashBad

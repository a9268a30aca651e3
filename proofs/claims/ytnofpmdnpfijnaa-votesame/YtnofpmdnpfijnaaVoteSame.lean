/-
  two votes say the same just if all but who votes is the same (VoteSame is true of every input).
-/
import Derived.Test.YtnofpmdnpfijnaaRows

import Derived.WalkKit

import Derived.Below

import Derived.ProofKit

import Derived.OpenShut

import Derived.ShutString

import Derived.ChangeOld

import Derived.Test.YtnofpmdnpfijnaaVAt

namespace Go.Proofs.Ytnofpmdnpfijnaa.voteSame

open Go.ChangeShapes Go.WideShapes Go.ChangeAt Go.RowKit

set_option linter.unusedVariables false

theorem own : ownKnob Try.prog.godebug = none := by kernel_rfl
theorem laidOut : laidOutB Try.prog = true := by kernel_rfl
theorem cells3 : Try.prog.cellsOf 3 = 1 := by kernel_rfl
theorem cells4 : Try.prog.cellsOf 4 = 1 := by kernel_rfl
theorem cells25 : Try.prog.cellsOf 25 = 1 := by kernel_rfl
theorem cells27 : Try.prog.cellsOf 27 = 2 := by kernel_rfl
theorem cells28 : Try.prog.cellsOf 28 = 1 := by kernel_rfl
theorem cells30 : Try.prog.cellsOf 30 = 7 := by kernel_rfl
theorem list2 {α : Type _} {l : List α} (h : l.length = 2) : ∃ x0 x1, l = [x0, x1] := by
  match l, h with
  | [x0, x1], _ => exact ⟨x0, x1, rfl⟩
theorem list5 {α : Type _} {l : List α} (h : l.length = 5) : ∃ x0 x1 x2 x3 x4, l = [x0, x1, x2, x3, x4] := by
  match l, h with
  | [x0, x1, x2, x3, x4], _ => exact ⟨x0, x1, x2, x3, x4, rfl⟩
theorem list7 {α : Type _} {l : List α} (h : l.length = 7) : ∃ x0 x1 x2 x3 x4 x5 x6, l = [x0, x1, x2, x3, x4, x5, x6] := by
  match l, h with
  | [x0, x1, x2, x3, x4, x5, x6], _ => exact ⟨x0, x1, x2, x3, x4, x5, x6, rfl⟩

set_option maxHeartbeats 1000000 in
theorem walk (a0_0 : Int) (a0_1 : Int) (a0_2 : Int) (a0_3 : Int) (a0_4 : Int) (a0_5 : Int) (a0_6 : Option Addr) (len0_6 cap0_6 : Nat) (z0_6 : List Int) (a1_0 : Int) (a1_1 : Int) (a1_2 : Int) (a1_3 : Int) (a1_4 : Int) (a1_5 : Int) (a1_6 : Option Addr) (len1_6 cap1_6 : Nat) (z1_6 : List Int) (w : World) (w0_0 : (Lit.int .i64 a0_0).wf = true) (w0_1 : (Lit.int .u64 a0_1).wf = true) (w0_2 : (Lit.int .i64 a0_2).wf = true) (w0_3 : (Lit.int .u64 a0_3).wf = true) (w0_4 : (Lit.int .i64 a0_4).wf = true) (w0_5 : (Lit.int .u64 a0_5).wf = true) (w0_6 : IsRow .i64 w a0_6 len0_6 cap0_6 z0_6) (w1_0 : (Lit.int .i64 a1_0).wf = true) (w1_1 : (Lit.int .u64 a1_1).wf = true) (w1_2 : (Lit.int .i64 a1_2).wf = true) (w1_3 : (Lit.int .u64 a1_3).wf = true) (w1_4 : (Lit.int .i64 a1_4).wf = true) (w1_5 : (Lit.int .u64 a1_5).wf = true) (w1_6 : IsRow .i64 w a1_6 len1_6 cap1_6 z1_6) :
    Calls Try.prog 4 #[.agg #[.int .i64 a0_0, .int .u64 a0_1, .int .i64 a0_2, .int .u64 a0_3, .int .i64 a0_4, .int .u64 a0_5, .slice a0_6 len0_6 cap0_6], .agg #[.int .i64 a1_0, .int .u64 a1_1, .int .i64 a1_2, .int .u64 a1_3, .int .i64 a1_4, .int .u64 a1_5, .slice a1_6 len1_6 cap1_6]] w fun e w' => e = .returned (.bool true) ∧ Below w.heap.size w w' := by
  clear w0_0 w0_1 w0_2 w0_3 w0_4 w0_5 w0_6 w1_0 w1_1 w1_2 w1_3 w1_4 w1_5 w1_6
  have HA := hide (((VAt.lit w w.heap.size rfl a0_0 a0_1 a0_2 a0_3 a0_4 a0_5 a0_6 len0_6 cap0_6).alloc (vobj a1_0 a1_1 a1_2 a1_3 a1_4 a1_5 a1_6 len1_6 cap1_6)))
  have HB := hide (VAt.lit (w.alloc (vobj a0_0 a0_1 a0_2 a0_3 a0_4 a0_5 a0_6 len0_6 cap0_6)) (w.heap.size + 1) (by simp) a1_0 a1_1 a1_2 a1_3 a1_4 a1_5 a1_6 len1_6 cap1_6)
  have HN := hide (((Below.refl _ w).alloc (Nat.le_refl _) (vobj a0_0 a0_1 a0_2 a0_3 a0_4 a0_5 a0_6 len0_6 cap0_6)).alloc (by simp) (vobj a1_0 a1_1 a1_2 a1_3 a1_4 a1_5 a1_6 len1_6 cap1_6))
  by_cases e0 : ¬ a0_0 = a1_0
  · have hS : sameB a0_0 a0_1 a0_2 a0_3 a0_4 a0_5 a1_0 a1_1 a1_2 a1_3 a1_4 a1_5 = false := by simp [sameB, *]
    go_enter Try.func4, Try.ntmps4
    go_wp2_with fail
    refine (awake_any _).mono ?_
    rintro e w1 ⟨rfl, hbel⟩
    have HA1 := hide (HA.out.below hbel)
    have HB1 := hide (HB.out.below hbel)
    have HN1 := hide (HN.out.trans (hbel.mono (by simp <;> omega)))
    clear HA HB HN hbel
    obtain ⟨hlt, p0, p1, p2, p3, p4, p5, p6⟩ := HA1.out
    obtain ⟨hlt2, q0, q1, q2, q3, q4, q5, q6⟩ := HB1.out
    go_wp2_with fail
    refine (same_any _ _ _ _ _ _ _ _ _ _ _ _ _ _ _ _ _ _ _).mono ?_
    rintro e w2 ⟨rfl, hbel⟩
    rw [hS]
    have HC := hide ((VAt.lit w1 w1.heap.size rfl a0_0 a0_1 a0_2 a0_3 a0_4 a0_5 a1_6 len1_6 cap1_6).below hbel)
    have HA2 := hide ((HA1.out.alloc (vobj a0_0 a0_1 a0_2 a0_3 a0_4 a0_5 a1_6 len1_6 cap1_6)).below hbel)
    have HB2 := hide ((HB1.out.alloc (vobj a0_0 a0_1 a0_2 a0_3 a0_4 a0_5 a1_6 len1_6 cap1_6)).below hbel)
    have HN2 := hide ((HN1.out.alloc (by have := HN1.out.size; omega) (vobj a0_0 a0_1 a0_2 a0_3 a0_4 a0_5 a1_6 len1_6 cap1_6)).trans (hbel.mono (by have := HN1.out.size; simp; omega)))
    clear p0 p1 p2 p3 p4 p5 p6 q0 q1 q2 q3 q4 q5 q6 hlt hlt2 hbel HA1 HB1 HN1
    obtain ⟨hlt, p0, p1, p2, p3, p4, p5, p6⟩ := HA2.out
    obtain ⟨hlt2, q0, q1, q2, q3, q4, q5, q6⟩ := HB2.out
    obtain ⟨hlt3, r0, r1, r2, r3, r4, r5, r6⟩ := HC.out
    go_wp2_with fail
    refine (same_any _ _ _ _ _ _ _ _ _ _ _ _ _ _ _ _ _ _ _).mono ?_
    rintro e w3 ⟨rfl, hbel⟩
    rw [sameB_self]
    have HA3 := hide (HA2.out.below hbel)
    have HB3 := hide (HB2.out.below hbel)
    have HN3 := hide (HN2.out.trans (hbel.mono (by have := HN2.out.size; omega)))
    clear p0 p1 p2 p3 p4 p5 p6 q0 q1 q2 q3 q4 q5 q6 r0 r1 r2 r3 r4 r5 r6 hlt hlt2 hlt3 hbel HA2 HB2 HN2 HC
    obtain ⟨hlt, p0, p1, p2, p3, p4, p5, p6⟩ := HA3.out
    obtain ⟨hlt2, q0, q1, q2, q3, q4, q5, q6⟩ := HB3.out
    go_wp2_with fail
    refine (same_any _ _ _ _ _ _ _ _ _ _ _ _ _ _ _ _ _ _ _).mono ?_
    rintro e w4 ⟨rfl, hbel⟩
    rw [sameB_comm, hS]
    have HN4 := hide (HN3.out.trans (hbel.mono (by have := HN3.out.size; omega)))
    clear hbel
    go_wp2
    go_ret
    exact ⟨rfl, HN4.out⟩
  have e0 : a0_0 = a1_0 := Classical.not_not.1 e0
  subst e0
  by_cases e1 : ¬ a0_1 = a1_1
  · have hS : sameB a0_0 a0_1 a0_2 a0_3 a0_4 a0_5 a0_0 a1_1 a1_2 a1_3 a1_4 a1_5 = false := by simp [sameB, *]
    go_enter Try.func4, Try.ntmps4
    go_wp2_with fail
    refine (awake_any _).mono ?_
    rintro e w1 ⟨rfl, hbel⟩
    have HA1 := hide (HA.out.below hbel)
    have HB1 := hide (HB.out.below hbel)
    have HN1 := hide (HN.out.trans (hbel.mono (by simp <;> omega)))
    clear HA HB HN hbel
    obtain ⟨hlt, p0, p1, p2, p3, p4, p5, p6⟩ := HA1.out
    obtain ⟨hlt2, q0, q1, q2, q3, q4, q5, q6⟩ := HB1.out
    go_wp2_with fail
    refine (same_any _ _ _ _ _ _ _ _ _ _ _ _ _ _ _ _ _ _ _).mono ?_
    rintro e w2 ⟨rfl, hbel⟩
    rw [hS]
    have HC := hide ((VAt.lit w1 w1.heap.size rfl a0_0 a0_1 a0_2 a0_3 a0_4 a0_5 a1_6 len1_6 cap1_6).below hbel)
    have HA2 := hide ((HA1.out.alloc (vobj a0_0 a0_1 a0_2 a0_3 a0_4 a0_5 a1_6 len1_6 cap1_6)).below hbel)
    have HB2 := hide ((HB1.out.alloc (vobj a0_0 a0_1 a0_2 a0_3 a0_4 a0_5 a1_6 len1_6 cap1_6)).below hbel)
    have HN2 := hide ((HN1.out.alloc (by have := HN1.out.size; omega) (vobj a0_0 a0_1 a0_2 a0_3 a0_4 a0_5 a1_6 len1_6 cap1_6)).trans (hbel.mono (by have := HN1.out.size; simp; omega)))
    clear p0 p1 p2 p3 p4 p5 p6 q0 q1 q2 q3 q4 q5 q6 hlt hlt2 hbel HA1 HB1 HN1
    obtain ⟨hlt, p0, p1, p2, p3, p4, p5, p6⟩ := HA2.out
    obtain ⟨hlt2, q0, q1, q2, q3, q4, q5, q6⟩ := HB2.out
    obtain ⟨hlt3, r0, r1, r2, r3, r4, r5, r6⟩ := HC.out
    go_wp2_with fail
    refine (same_any _ _ _ _ _ _ _ _ _ _ _ _ _ _ _ _ _ _ _).mono ?_
    rintro e w3 ⟨rfl, hbel⟩
    rw [sameB_self]
    have HA3 := hide (HA2.out.below hbel)
    have HB3 := hide (HB2.out.below hbel)
    have HN3 := hide (HN2.out.trans (hbel.mono (by have := HN2.out.size; omega)))
    clear p0 p1 p2 p3 p4 p5 p6 q0 q1 q2 q3 q4 q5 q6 r0 r1 r2 r3 r4 r5 r6 hlt hlt2 hlt3 hbel HA2 HB2 HN2 HC
    obtain ⟨hlt, p0, p1, p2, p3, p4, p5, p6⟩ := HA3.out
    obtain ⟨hlt2, q0, q1, q2, q3, q4, q5, q6⟩ := HB3.out
    go_wp2_with fail
    refine (same_any _ _ _ _ _ _ _ _ _ _ _ _ _ _ _ _ _ _ _).mono ?_
    rintro e w4 ⟨rfl, hbel⟩
    rw [sameB_comm, hS]
    have HN4 := hide (HN3.out.trans (hbel.mono (by have := HN3.out.size; omega)))
    clear hbel
    go_wp2
    go_ret
    exact ⟨rfl, HN4.out⟩
  have e1 : a0_1 = a1_1 := Classical.not_not.1 e1
  subst e1
  by_cases e2 : ¬ a0_2 = a1_2
  · have hS : sameB a0_0 a0_1 a0_2 a0_3 a0_4 a0_5 a0_0 a0_1 a1_2 a1_3 a1_4 a1_5 = false := by simp [sameB, *]
    go_enter Try.func4, Try.ntmps4
    go_wp2_with fail
    refine (awake_any _).mono ?_
    rintro e w1 ⟨rfl, hbel⟩
    have HA1 := hide (HA.out.below hbel)
    have HB1 := hide (HB.out.below hbel)
    have HN1 := hide (HN.out.trans (hbel.mono (by simp <;> omega)))
    clear HA HB HN hbel
    obtain ⟨hlt, p0, p1, p2, p3, p4, p5, p6⟩ := HA1.out
    obtain ⟨hlt2, q0, q1, q2, q3, q4, q5, q6⟩ := HB1.out
    go_wp2_with fail
    refine (same_any _ _ _ _ _ _ _ _ _ _ _ _ _ _ _ _ _ _ _).mono ?_
    rintro e w2 ⟨rfl, hbel⟩
    rw [hS]
    have HC := hide ((VAt.lit w1 w1.heap.size rfl a0_0 a0_1 a0_2 a0_3 a0_4 a0_5 a1_6 len1_6 cap1_6).below hbel)
    have HA2 := hide ((HA1.out.alloc (vobj a0_0 a0_1 a0_2 a0_3 a0_4 a0_5 a1_6 len1_6 cap1_6)).below hbel)
    have HB2 := hide ((HB1.out.alloc (vobj a0_0 a0_1 a0_2 a0_3 a0_4 a0_5 a1_6 len1_6 cap1_6)).below hbel)
    have HN2 := hide ((HN1.out.alloc (by have := HN1.out.size; omega) (vobj a0_0 a0_1 a0_2 a0_3 a0_4 a0_5 a1_6 len1_6 cap1_6)).trans (hbel.mono (by have := HN1.out.size; simp; omega)))
    clear p0 p1 p2 p3 p4 p5 p6 q0 q1 q2 q3 q4 q5 q6 hlt hlt2 hbel HA1 HB1 HN1
    obtain ⟨hlt, p0, p1, p2, p3, p4, p5, p6⟩ := HA2.out
    obtain ⟨hlt2, q0, q1, q2, q3, q4, q5, q6⟩ := HB2.out
    obtain ⟨hlt3, r0, r1, r2, r3, r4, r5, r6⟩ := HC.out
    go_wp2_with fail
    refine (same_any _ _ _ _ _ _ _ _ _ _ _ _ _ _ _ _ _ _ _).mono ?_
    rintro e w3 ⟨rfl, hbel⟩
    rw [sameB_self]
    have HA3 := hide (HA2.out.below hbel)
    have HB3 := hide (HB2.out.below hbel)
    have HN3 := hide (HN2.out.trans (hbel.mono (by have := HN2.out.size; omega)))
    clear p0 p1 p2 p3 p4 p5 p6 q0 q1 q2 q3 q4 q5 q6 r0 r1 r2 r3 r4 r5 r6 hlt hlt2 hlt3 hbel HA2 HB2 HN2 HC
    obtain ⟨hlt, p0, p1, p2, p3, p4, p5, p6⟩ := HA3.out
    obtain ⟨hlt2, q0, q1, q2, q3, q4, q5, q6⟩ := HB3.out
    go_wp2_with fail
    refine (same_any _ _ _ _ _ _ _ _ _ _ _ _ _ _ _ _ _ _ _).mono ?_
    rintro e w4 ⟨rfl, hbel⟩
    rw [sameB_comm, hS]
    have HN4 := hide (HN3.out.trans (hbel.mono (by have := HN3.out.size; omega)))
    clear hbel
    go_wp2
    go_ret
    exact ⟨rfl, HN4.out⟩
  have e2 : a0_2 = a1_2 := Classical.not_not.1 e2
  subst e2
  by_cases e3 : ¬ a0_3 = a1_3
  · have hS : sameB a0_0 a0_1 a0_2 a0_3 a0_4 a0_5 a0_0 a0_1 a0_2 a1_3 a1_4 a1_5 = false := by simp [sameB, *]
    go_enter Try.func4, Try.ntmps4
    go_wp2_with fail
    refine (awake_any _).mono ?_
    rintro e w1 ⟨rfl, hbel⟩
    have HA1 := hide (HA.out.below hbel)
    have HB1 := hide (HB.out.below hbel)
    have HN1 := hide (HN.out.trans (hbel.mono (by simp <;> omega)))
    clear HA HB HN hbel
    obtain ⟨hlt, p0, p1, p2, p3, p4, p5, p6⟩ := HA1.out
    obtain ⟨hlt2, q0, q1, q2, q3, q4, q5, q6⟩ := HB1.out
    go_wp2_with fail
    refine (same_any _ _ _ _ _ _ _ _ _ _ _ _ _ _ _ _ _ _ _).mono ?_
    rintro e w2 ⟨rfl, hbel⟩
    rw [hS]
    have HC := hide ((VAt.lit w1 w1.heap.size rfl a0_0 a0_1 a0_2 a0_3 a0_4 a0_5 a1_6 len1_6 cap1_6).below hbel)
    have HA2 := hide ((HA1.out.alloc (vobj a0_0 a0_1 a0_2 a0_3 a0_4 a0_5 a1_6 len1_6 cap1_6)).below hbel)
    have HB2 := hide ((HB1.out.alloc (vobj a0_0 a0_1 a0_2 a0_3 a0_4 a0_5 a1_6 len1_6 cap1_6)).below hbel)
    have HN2 := hide ((HN1.out.alloc (by have := HN1.out.size; omega) (vobj a0_0 a0_1 a0_2 a0_3 a0_4 a0_5 a1_6 len1_6 cap1_6)).trans (hbel.mono (by have := HN1.out.size; simp; omega)))
    clear p0 p1 p2 p3 p4 p5 p6 q0 q1 q2 q3 q4 q5 q6 hlt hlt2 hbel HA1 HB1 HN1
    obtain ⟨hlt, p0, p1, p2, p3, p4, p5, p6⟩ := HA2.out
    obtain ⟨hlt2, q0, q1, q2, q3, q4, q5, q6⟩ := HB2.out
    obtain ⟨hlt3, r0, r1, r2, r3, r4, r5, r6⟩ := HC.out
    go_wp2_with fail
    refine (same_any _ _ _ _ _ _ _ _ _ _ _ _ _ _ _ _ _ _ _).mono ?_
    rintro e w3 ⟨rfl, hbel⟩
    rw [sameB_self]
    have HA3 := hide (HA2.out.below hbel)
    have HB3 := hide (HB2.out.below hbel)
    have HN3 := hide (HN2.out.trans (hbel.mono (by have := HN2.out.size; omega)))
    clear p0 p1 p2 p3 p4 p5 p6 q0 q1 q2 q3 q4 q5 q6 r0 r1 r2 r3 r4 r5 r6 hlt hlt2 hlt3 hbel HA2 HB2 HN2 HC
    obtain ⟨hlt, p0, p1, p2, p3, p4, p5, p6⟩ := HA3.out
    obtain ⟨hlt2, q0, q1, q2, q3, q4, q5, q6⟩ := HB3.out
    go_wp2_with fail
    refine (same_any _ _ _ _ _ _ _ _ _ _ _ _ _ _ _ _ _ _ _).mono ?_
    rintro e w4 ⟨rfl, hbel⟩
    rw [sameB_comm, hS]
    have HN4 := hide (HN3.out.trans (hbel.mono (by have := HN3.out.size; omega)))
    clear hbel
    go_wp2
    go_ret
    exact ⟨rfl, HN4.out⟩
  have e3 : a0_3 = a1_3 := Classical.not_not.1 e3
  subst e3
  by_cases e4 : ¬ a0_4 = a1_4
  · have hS : sameB a0_0 a0_1 a0_2 a0_3 a0_4 a0_5 a0_0 a0_1 a0_2 a0_3 a1_4 a1_5 = false := by simp [sameB, *]
    go_enter Try.func4, Try.ntmps4
    go_wp2_with fail
    refine (awake_any _).mono ?_
    rintro e w1 ⟨rfl, hbel⟩
    have HA1 := hide (HA.out.below hbel)
    have HB1 := hide (HB.out.below hbel)
    have HN1 := hide (HN.out.trans (hbel.mono (by simp <;> omega)))
    clear HA HB HN hbel
    obtain ⟨hlt, p0, p1, p2, p3, p4, p5, p6⟩ := HA1.out
    obtain ⟨hlt2, q0, q1, q2, q3, q4, q5, q6⟩ := HB1.out
    go_wp2_with fail
    refine (same_any _ _ _ _ _ _ _ _ _ _ _ _ _ _ _ _ _ _ _).mono ?_
    rintro e w2 ⟨rfl, hbel⟩
    rw [hS]
    have HC := hide ((VAt.lit w1 w1.heap.size rfl a0_0 a0_1 a0_2 a0_3 a0_4 a0_5 a1_6 len1_6 cap1_6).below hbel)
    have HA2 := hide ((HA1.out.alloc (vobj a0_0 a0_1 a0_2 a0_3 a0_4 a0_5 a1_6 len1_6 cap1_6)).below hbel)
    have HB2 := hide ((HB1.out.alloc (vobj a0_0 a0_1 a0_2 a0_3 a0_4 a0_5 a1_6 len1_6 cap1_6)).below hbel)
    have HN2 := hide ((HN1.out.alloc (by have := HN1.out.size; omega) (vobj a0_0 a0_1 a0_2 a0_3 a0_4 a0_5 a1_6 len1_6 cap1_6)).trans (hbel.mono (by have := HN1.out.size; simp; omega)))
    clear p0 p1 p2 p3 p4 p5 p6 q0 q1 q2 q3 q4 q5 q6 hlt hlt2 hbel HA1 HB1 HN1
    obtain ⟨hlt, p0, p1, p2, p3, p4, p5, p6⟩ := HA2.out
    obtain ⟨hlt2, q0, q1, q2, q3, q4, q5, q6⟩ := HB2.out
    obtain ⟨hlt3, r0, r1, r2, r3, r4, r5, r6⟩ := HC.out
    go_wp2_with fail
    refine (same_any _ _ _ _ _ _ _ _ _ _ _ _ _ _ _ _ _ _ _).mono ?_
    rintro e w3 ⟨rfl, hbel⟩
    rw [sameB_self]
    have HA3 := hide (HA2.out.below hbel)
    have HB3 := hide (HB2.out.below hbel)
    have HN3 := hide (HN2.out.trans (hbel.mono (by have := HN2.out.size; omega)))
    clear p0 p1 p2 p3 p4 p5 p6 q0 q1 q2 q3 q4 q5 q6 r0 r1 r2 r3 r4 r5 r6 hlt hlt2 hlt3 hbel HA2 HB2 HN2 HC
    obtain ⟨hlt, p0, p1, p2, p3, p4, p5, p6⟩ := HA3.out
    obtain ⟨hlt2, q0, q1, q2, q3, q4, q5, q6⟩ := HB3.out
    go_wp2_with fail
    refine (same_any _ _ _ _ _ _ _ _ _ _ _ _ _ _ _ _ _ _ _).mono ?_
    rintro e w4 ⟨rfl, hbel⟩
    rw [sameB_comm, hS]
    have HN4 := hide (HN3.out.trans (hbel.mono (by have := HN3.out.size; omega)))
    clear hbel
    go_wp2
    go_ret
    exact ⟨rfl, HN4.out⟩
  have e4 : a0_4 = a1_4 := Classical.not_not.1 e4
  subst e4
  by_cases e5 : ¬ a0_5 = a1_5
  · have hS : sameB a0_0 a0_1 a0_2 a0_3 a0_4 a0_5 a0_0 a0_1 a0_2 a0_3 a0_4 a1_5 = false := by simp [sameB, *]
    go_enter Try.func4, Try.ntmps4
    go_wp2_with fail
    refine (awake_any _).mono ?_
    rintro e w1 ⟨rfl, hbel⟩
    have HA1 := hide (HA.out.below hbel)
    have HB1 := hide (HB.out.below hbel)
    have HN1 := hide (HN.out.trans (hbel.mono (by simp <;> omega)))
    clear HA HB HN hbel
    obtain ⟨hlt, p0, p1, p2, p3, p4, p5, p6⟩ := HA1.out
    obtain ⟨hlt2, q0, q1, q2, q3, q4, q5, q6⟩ := HB1.out
    go_wp2_with fail
    refine (same_any _ _ _ _ _ _ _ _ _ _ _ _ _ _ _ _ _ _ _).mono ?_
    rintro e w2 ⟨rfl, hbel⟩
    rw [hS]
    have HC := hide ((VAt.lit w1 w1.heap.size rfl a0_0 a0_1 a0_2 a0_3 a0_4 a0_5 a1_6 len1_6 cap1_6).below hbel)
    have HA2 := hide ((HA1.out.alloc (vobj a0_0 a0_1 a0_2 a0_3 a0_4 a0_5 a1_6 len1_6 cap1_6)).below hbel)
    have HB2 := hide ((HB1.out.alloc (vobj a0_0 a0_1 a0_2 a0_3 a0_4 a0_5 a1_6 len1_6 cap1_6)).below hbel)
    have HN2 := hide ((HN1.out.alloc (by have := HN1.out.size; omega) (vobj a0_0 a0_1 a0_2 a0_3 a0_4 a0_5 a1_6 len1_6 cap1_6)).trans (hbel.mono (by have := HN1.out.size; simp; omega)))
    clear p0 p1 p2 p3 p4 p5 p6 q0 q1 q2 q3 q4 q5 q6 hlt hlt2 hbel HA1 HB1 HN1
    obtain ⟨hlt, p0, p1, p2, p3, p4, p5, p6⟩ := HA2.out
    obtain ⟨hlt2, q0, q1, q2, q3, q4, q5, q6⟩ := HB2.out
    obtain ⟨hlt3, r0, r1, r2, r3, r4, r5, r6⟩ := HC.out
    go_wp2_with fail
    refine (same_any _ _ _ _ _ _ _ _ _ _ _ _ _ _ _ _ _ _ _).mono ?_
    rintro e w3 ⟨rfl, hbel⟩
    rw [sameB_self]
    have HA3 := hide (HA2.out.below hbel)
    have HB3 := hide (HB2.out.below hbel)
    have HN3 := hide (HN2.out.trans (hbel.mono (by have := HN2.out.size; omega)))
    clear p0 p1 p2 p3 p4 p5 p6 q0 q1 q2 q3 q4 q5 q6 r0 r1 r2 r3 r4 r5 r6 hlt hlt2 hlt3 hbel HA2 HB2 HN2 HC
    obtain ⟨hlt, p0, p1, p2, p3, p4, p5, p6⟩ := HA3.out
    obtain ⟨hlt2, q0, q1, q2, q3, q4, q5, q6⟩ := HB3.out
    go_wp2_with fail
    refine (same_any _ _ _ _ _ _ _ _ _ _ _ _ _ _ _ _ _ _ _).mono ?_
    rintro e w4 ⟨rfl, hbel⟩
    rw [sameB_comm, hS]
    have HN4 := hide (HN3.out.trans (hbel.mono (by have := HN3.out.size; omega)))
    clear hbel
    go_wp2
    go_ret
    exact ⟨rfl, HN4.out⟩
  have e5 : a0_5 = a1_5 := Classical.not_not.1 e5
  subst e5
  · have hS : sameB a0_0 a0_1 a0_2 a0_3 a0_4 a0_5 a0_0 a0_1 a0_2 a0_3 a0_4 a0_5 = true := by simp [sameB, *]
    go_enter Try.func4, Try.ntmps4
    go_wp2_with fail
    refine (awake_any _).mono ?_
    rintro e w1 ⟨rfl, hbel⟩
    have HA1 := hide (HA.out.below hbel)
    have HB1 := hide (HB.out.below hbel)
    have HN1 := hide (HN.out.trans (hbel.mono (by simp <;> omega)))
    clear HA HB HN hbel
    obtain ⟨hlt, p0, p1, p2, p3, p4, p5, p6⟩ := HA1.out
    obtain ⟨hlt2, q0, q1, q2, q3, q4, q5, q6⟩ := HB1.out
    go_wp2_with fail
    refine (same_any _ _ _ _ _ _ _ _ _ _ _ _ _ _ _ _ _ _ _).mono ?_
    rintro e w2 ⟨rfl, hbel⟩
    rw [hS]
    have HC := hide ((VAt.lit w1 w1.heap.size rfl a0_0 a0_1 a0_2 a0_3 a0_4 a0_5 a1_6 len1_6 cap1_6).below hbel)
    have HA2 := hide ((HA1.out.alloc (vobj a0_0 a0_1 a0_2 a0_3 a0_4 a0_5 a1_6 len1_6 cap1_6)).below hbel)
    have HB2 := hide ((HB1.out.alloc (vobj a0_0 a0_1 a0_2 a0_3 a0_4 a0_5 a1_6 len1_6 cap1_6)).below hbel)
    have HN2 := hide ((HN1.out.alloc (by have := HN1.out.size; omega) (vobj a0_0 a0_1 a0_2 a0_3 a0_4 a0_5 a1_6 len1_6 cap1_6)).trans (hbel.mono (by have := HN1.out.size; simp; omega)))
    clear p0 p1 p2 p3 p4 p5 p6 q0 q1 q2 q3 q4 q5 q6 hlt hlt2 hbel HA1 HB1 HN1
    obtain ⟨hlt, p0, p1, p2, p3, p4, p5, p6⟩ := HA2.out
    obtain ⟨hlt2, q0, q1, q2, q3, q4, q5, q6⟩ := HB2.out
    obtain ⟨hlt3, r0, r1, r2, r3, r4, r5, r6⟩ := HC.out
    go_wp2_with fail
    refine (same_any _ _ _ _ _ _ _ _ _ _ _ _ _ _ _ _ _ _ _).mono ?_
    rintro e w3 ⟨rfl, hbel⟩
    rw [sameB_self]
    have HA3 := hide (HA2.out.below hbel)
    have HB3 := hide (HB2.out.below hbel)
    have HN3 := hide (HN2.out.trans (hbel.mono (by have := HN2.out.size; omega)))
    clear p0 p1 p2 p3 p4 p5 p6 q0 q1 q2 q3 q4 q5 q6 r0 r1 r2 r3 r4 r5 r6 hlt hlt2 hlt3 hbel HA2 HB2 HN2 HC
    obtain ⟨hlt, p0, p1, p2, p3, p4, p5, p6⟩ := HA3.out
    obtain ⟨hlt2, q0, q1, q2, q3, q4, q5, q6⟩ := HB3.out
    go_wp2_with fail
    refine (same_any _ _ _ _ _ _ _ _ _ _ _ _ _ _ _ _ _ _ _).mono ?_
    rintro e w4 ⟨rfl, hbel⟩
    rw [sameB_comm, hS]
    have HN4 := hide (HN3.out.trans (hbel.mono (by have := HN3.out.size; omega)))
    clear hbel
    go_wp2
    go_ret
    exact ⟨rfl, HN4.out⟩

set_option maxRecDepth 100000 in
theorem lifted (os : Os) (started : os.Started) (H : Type) (enc : TypeId × Value → H) :
    ReturnsInHanded {} Try.checked os 4 .any (Rows.voteSameSpec.pre6 enc Try.prog Try.f4 Rows.voteSameRow.domain false) (Rows.voteSameSpec.post enc Try.prog Try.f4 false true false false) := by
  refine returnsInHanded_of_change (C := Try.checked) own started (by kernel_rfl) Try.func4
    (ChangeSpec.witness6 (enc := enc) (C := Try.checked) false ⟨#[], #[.agg #[.int .i64 0, .int .u64 0, .int .i64 0, .int .u64 0, .int .i64 0, .int .u64 0, .slice none 0 0], .agg #[.int .i64 0, .int .u64 0, .int .i64 0, .int .u64 0, .int .i64 0, .int .u64 0, .slice none 0 0]], []⟩ 8 (by kernel_rfl) (by kernel_rfl) (by kernel_rfl) (by kernel_rfl)) ?_
  intro W base args ds gs before hval0 hW hcnd _
  have hval : ∀ (j : Nat) t v, Try.f4.params[j]? = some t → args[j]? = some v → Value.okWide Try.prog W .any base t v := hval0
  have hW' := hW
  obtain ⟨p, q, hA0, hV, rfl, hfz, hnd⟩ := hW
  have hA : DataW.TrodAll enc Try.prog W 0 (fun _ => true) true Try.f4.params.toList args.toList ds p := hA0
  rw [Try.params4] at hA hval
  obtain ⟨v0, vs0, d0, ds0, p0, q0, hargs, rfl, rfl, h0, r0⟩ := trodAll_cons hA
  obtain ⟨v1, vs1, d1, ds1, p1, q1, rfl, rfl, rfl, h1, r1⟩ := trodAll_cons r0
  obtain ⟨rfl, rfl, rfl⟩ := trodAll_nil r1
  obtain rfl : args = #[v0, v1] := by cases args; simp_all
  obtain ⟨rfl, rfl⟩ := trodVars_none hV
  obtain ⟨cs0, rfl, sz0⟩ := okWide_struct Try.underlying30 (hval 0 30 v0 rfl rfl)
  rw [cells30] at sz0
  obtain ⟨l0⟩ := cs0
  obtain ⟨c0_0, c0_1, c0_2, c0_3, c0_4, c0_5, c0_6, rfl⟩ := list7 (show l0.length = 7 from sz0)
  clear sz0
  have k0 := h0
  have lt0 : ∀ x ∈ p0, x.block < W.heap.size := by obtain ⟨m, hm⟩ := k0; exact DataW.trod_lt m _ _ _ hm
  obtain ⟨fuel0, hf0⟩ := h0
  simp only [Value.cells] at hf0
  obtain ⟨xs0_0t30, n0_0t30, _, hx0_0t30, _, hlen0_0t30, hf0_0t30⟩ := DataW.trod_struct Try.underlying30 hf0
  obtain ⟨y0_0t30_0, y0_0t30_1, y0_0t30_2, y0_0t30_3, y0_0t30_4, rfl⟩ := list5 (show xs0_0t30.length = 5 from hlen0_0t30)
  have hy0_0t30_0 : DataW.trod enc Try.prog W 0 (fun _ => true) true n0_0t30 3 [c0_0] = some y0_0t30_0 := by simpa [Value.cells, cells3, cells4, cells25, cells27, cells28, cells30] using hf0_0t30 0 _ rfl
  have hy0_0t30_1 : DataW.trod enc Try.prog W 0 (fun _ => true) true n0_0t30 25 [c0_1] = some y0_0t30_1 := by simpa [Value.cells, cells3, cells4, cells25, cells27, cells28, cells30] using hf0_0t30 1 _ rfl
  have hy0_0t30_2 : DataW.trod enc Try.prog W 0 (fun _ => true) true n0_0t30 27 [c0_2, c0_3] = some y0_0t30_2 := by simpa [Value.cells, cells3, cells4, cells25, cells27, cells28, cells30] using hf0_0t30 2 _ rfl
  have hy0_0t30_3 : DataW.trod enc Try.prog W 0 (fun _ => true) true n0_0t30 27 [c0_4, c0_5] = some y0_0t30_3 := by simpa [Value.cells, cells3, cells4, cells25, cells27, cells28, cells30] using hf0_0t30 3 _ rfl
  have hy0_0t30_4 : DataW.trod enc Try.prog W 0 (fun _ => true) true n0_0t30 28 [c0_6] = some y0_0t30_4 := by simpa [Value.cells, cells3, cells4, cells25, cells27, cells28, cells30] using hf0_0t30 4 _ rfl
  obtain ⟨a0_0, e0_0, x0_0, w0_0⟩ := DataW.trod_int Try.underlying3 hy0_0t30_0
  simp at e0_0
  subst e0_0
  obtain ⟨a0_1, e0_1, x0_1, w0_1⟩ := DataW.trod_int Try.underlying25 hy0_0t30_1
  simp at e0_1
  subst e0_1
  obtain ⟨xs0_2t27, n0_2t27, _, hx0_2t27, _, hlen0_2t27, hf0_2t27⟩ := DataW.trod_struct Try.underlying27 hy0_0t30_2
  obtain ⟨y0_2t27_0, y0_2t27_1, rfl⟩ := list2 (show xs0_2t27.length = 2 from hlen0_2t27)
  have hy0_2t27_0 : DataW.trod enc Try.prog W 0 (fun _ => true) true n0_2t27 3 [c0_2] = some y0_2t27_0 := by simpa [Value.cells, cells3, cells4, cells25, cells27, cells28, cells30] using hf0_2t27 0 _ rfl
  have hy0_2t27_1 : DataW.trod enc Try.prog W 0 (fun _ => true) true n0_2t27 25 [c0_3] = some y0_2t27_1 := by simpa [Value.cells, cells3, cells4, cells25, cells27, cells28, cells30] using hf0_2t27 1 _ rfl
  obtain ⟨a0_2, e0_2, x0_2, w0_2⟩ := DataW.trod_int Try.underlying3 hy0_2t27_0
  simp at e0_2
  subst e0_2
  obtain ⟨a0_3, e0_3, x0_3, w0_3⟩ := DataW.trod_int Try.underlying25 hy0_2t27_1
  simp at e0_3
  subst e0_3
  obtain ⟨xs0_4t27, n0_4t27, _, hx0_4t27, _, hlen0_4t27, hf0_4t27⟩ := DataW.trod_struct Try.underlying27 hy0_0t30_3
  obtain ⟨y0_4t27_0, y0_4t27_1, rfl⟩ := list2 (show xs0_4t27.length = 2 from hlen0_4t27)
  have hy0_4t27_0 : DataW.trod enc Try.prog W 0 (fun _ => true) true n0_4t27 3 [c0_4] = some y0_4t27_0 := by simpa [Value.cells, cells3, cells4, cells25, cells27, cells28, cells30] using hf0_4t27 0 _ rfl
  have hy0_4t27_1 : DataW.trod enc Try.prog W 0 (fun _ => true) true n0_4t27 25 [c0_5] = some y0_4t27_1 := by simpa [Value.cells, cells3, cells4, cells25, cells27, cells28, cells30] using hf0_4t27 1 _ rfl
  obtain ⟨a0_4, e0_4, x0_4, w0_4⟩ := DataW.trod_int Try.underlying3 hy0_4t27_0
  simp at e0_4
  subst e0_4
  obtain ⟨a0_5, e0_5, x0_5, w0_5⟩ := DataW.trod_int Try.underlying25 hy0_4t27_1
  simp at e0_5
  subst e0_5
  obtain ⟨a0_6, len0_6, cap0_6, z0_6, e0_6, w0_6⟩ : ∃ a len cap zs, c0_6 = .slice a len cap ∧ IsRow .i64 W a len cap zs := by
    rcases open_ints Try.underlying28 Try.underlying3 (by kernel_rfl) hy0_0t30_4 with ⟨hcs, _⟩ | ⟨x, l, c, zs, hcs, _, hl, hm, hz, _, hcell, hwz⟩
    · simp at hcs
      exact ⟨none, 0, 0, [], hcs, .inl ⟨rfl, rfl, rfl, rfl⟩⟩
    · simp at hcs
      exact ⟨_, _, _, zs, hcs, .inr ⟨_, rfl, hl, hm, by simpa using hz, hcell, hwz⟩⟩
  subst e0_6
  obtain ⟨cs1, rfl, sz1⟩ := okWide_struct Try.underlying30 (hval 1 30 v1 rfl rfl)
  rw [cells30] at sz1
  obtain ⟨l1⟩ := cs1
  obtain ⟨c1_0, c1_1, c1_2, c1_3, c1_4, c1_5, c1_6, rfl⟩ := list7 (show l1.length = 7 from sz1)
  clear sz1
  have k1 := h1
  have lt1 : ∀ x ∈ p1, x.block < W.heap.size := by obtain ⟨m, hm⟩ := k1; exact DataW.trod_lt m _ _ _ hm
  obtain ⟨fuel1, hf1⟩ := h1
  simp only [Value.cells] at hf1
  obtain ⟨xs1_0t30, n1_0t30, _, hx1_0t30, _, hlen1_0t30, hf1_0t30⟩ := DataW.trod_struct Try.underlying30 hf1
  obtain ⟨y1_0t30_0, y1_0t30_1, y1_0t30_2, y1_0t30_3, y1_0t30_4, rfl⟩ := list5 (show xs1_0t30.length = 5 from hlen1_0t30)
  have hy1_0t30_0 : DataW.trod enc Try.prog W 0 (fun _ => true) true n1_0t30 3 [c1_0] = some y1_0t30_0 := by simpa [Value.cells, cells3, cells4, cells25, cells27, cells28, cells30] using hf1_0t30 0 _ rfl
  have hy1_0t30_1 : DataW.trod enc Try.prog W 0 (fun _ => true) true n1_0t30 25 [c1_1] = some y1_0t30_1 := by simpa [Value.cells, cells3, cells4, cells25, cells27, cells28, cells30] using hf1_0t30 1 _ rfl
  have hy1_0t30_2 : DataW.trod enc Try.prog W 0 (fun _ => true) true n1_0t30 27 [c1_2, c1_3] = some y1_0t30_2 := by simpa [Value.cells, cells3, cells4, cells25, cells27, cells28, cells30] using hf1_0t30 2 _ rfl
  have hy1_0t30_3 : DataW.trod enc Try.prog W 0 (fun _ => true) true n1_0t30 27 [c1_4, c1_5] = some y1_0t30_3 := by simpa [Value.cells, cells3, cells4, cells25, cells27, cells28, cells30] using hf1_0t30 3 _ rfl
  have hy1_0t30_4 : DataW.trod enc Try.prog W 0 (fun _ => true) true n1_0t30 28 [c1_6] = some y1_0t30_4 := by simpa [Value.cells, cells3, cells4, cells25, cells27, cells28, cells30] using hf1_0t30 4 _ rfl
  obtain ⟨a1_0, e1_0, x1_0, w1_0⟩ := DataW.trod_int Try.underlying3 hy1_0t30_0
  simp at e1_0
  subst e1_0
  obtain ⟨a1_1, e1_1, x1_1, w1_1⟩ := DataW.trod_int Try.underlying25 hy1_0t30_1
  simp at e1_1
  subst e1_1
  obtain ⟨xs1_2t27, n1_2t27, _, hx1_2t27, _, hlen1_2t27, hf1_2t27⟩ := DataW.trod_struct Try.underlying27 hy1_0t30_2
  obtain ⟨y1_2t27_0, y1_2t27_1, rfl⟩ := list2 (show xs1_2t27.length = 2 from hlen1_2t27)
  have hy1_2t27_0 : DataW.trod enc Try.prog W 0 (fun _ => true) true n1_2t27 3 [c1_2] = some y1_2t27_0 := by simpa [Value.cells, cells3, cells4, cells25, cells27, cells28, cells30] using hf1_2t27 0 _ rfl
  have hy1_2t27_1 : DataW.trod enc Try.prog W 0 (fun _ => true) true n1_2t27 25 [c1_3] = some y1_2t27_1 := by simpa [Value.cells, cells3, cells4, cells25, cells27, cells28, cells30] using hf1_2t27 1 _ rfl
  obtain ⟨a1_2, e1_2, x1_2, w1_2⟩ := DataW.trod_int Try.underlying3 hy1_2t27_0
  simp at e1_2
  subst e1_2
  obtain ⟨a1_3, e1_3, x1_3, w1_3⟩ := DataW.trod_int Try.underlying25 hy1_2t27_1
  simp at e1_3
  subst e1_3
  obtain ⟨xs1_4t27, n1_4t27, _, hx1_4t27, _, hlen1_4t27, hf1_4t27⟩ := DataW.trod_struct Try.underlying27 hy1_0t30_3
  obtain ⟨y1_4t27_0, y1_4t27_1, rfl⟩ := list2 (show xs1_4t27.length = 2 from hlen1_4t27)
  have hy1_4t27_0 : DataW.trod enc Try.prog W 0 (fun _ => true) true n1_4t27 3 [c1_4] = some y1_4t27_0 := by simpa [Value.cells, cells3, cells4, cells25, cells27, cells28, cells30] using hf1_4t27 0 _ rfl
  have hy1_4t27_1 : DataW.trod enc Try.prog W 0 (fun _ => true) true n1_4t27 25 [c1_5] = some y1_4t27_1 := by simpa [Value.cells, cells3, cells4, cells25, cells27, cells28, cells30] using hf1_4t27 1 _ rfl
  obtain ⟨a1_4, e1_4, x1_4, w1_4⟩ := DataW.trod_int Try.underlying3 hy1_4t27_0
  simp at e1_4
  subst e1_4
  obtain ⟨a1_5, e1_5, x1_5, w1_5⟩ := DataW.trod_int Try.underlying25 hy1_4t27_1
  simp at e1_5
  subst e1_5
  obtain ⟨a1_6, len1_6, cap1_6, z1_6, e1_6, w1_6⟩ : ∃ a len cap zs, c1_6 = .slice a len cap ∧ IsRow .i64 W a len cap zs := by
    rcases open_ints Try.underlying28 Try.underlying3 (by kernel_rfl) hy1_0t30_4 with ⟨hcs, _⟩ | ⟨x, l, c, zs, hcs, _, hl, hm, hz, _, hcell, hwz⟩
    · simp at hcs
      exact ⟨none, 0, 0, [], hcs, .inl ⟨rfl, rfl, rfl, rfl⟩⟩
    · simp at hcs
      exact ⟨_, _, _, zs, hcs, .inr ⟨_, rfl, hl, hm, by simpa using hz, hcell, hwz⟩⟩
  subst e1_6
  clear hA0 hval0
  refine (walk a0_0 a0_1 a0_2 a0_3 a0_4 a0_5 a0_6 len0_6 cap0_6 z0_6 a1_0 a1_1 a1_2 a1_3 a1_4 a1_5 a1_6 len1_6 cap1_6 z1_6 W w0_0 w0_1 w0_2 w0_3 w0_4 w0_5 w0_6 w1_0 w1_1 w1_2 w1_3 w1_4 w1_5 w1_6).mono fun e W' ⟨he, bel⟩ => ?_
  subst he
  exact ⟨_, rfl, _, _, _, [], _, [], hW', trodAll_mk1 (shut_bool Try.underlying4 _), (trodAll_cons_mk (Below.trod laidOut (by kernel_rfl) (of_decide_eq_true (by kernel_rfl)) k0 bel lt0) (trodAll_cons_mk (Below.trod laidOut (by kernel_rfl) (of_decide_eq_true (by kernel_rfl)) k1 bel lt1) trodAll_mk0)), rfl, bel.frame _, fun h => by cases h⟩

theorem over : Rows.voteSameRow.holds Try.pinned (OpenSpec.ofChange Rows.voteSameSpec) :=
  OpenClaim.holds_of_wide 4 Try.f4 rfl rfl rfl rfl rfl rfl rfl ⟨rfl, rfl, rfl, rfl, rfl⟩ rfl rfl rfl rfl rfl (by kernel_rfl) Try.func4 (by kernel_rfl)
    (of_decide_eq_true (by kernel_rfl)) (by unfold Func.isWrapper; first | (rw [if_pos (by decide +kernel)]; kernel_rfl) | (rw [if_neg (by decide +kernel)]; exact ⟨rfl, rfl⟩))
    (fun os started H enc _ => lifted os started H enc)

theorem proved : Rows.VoteSameSaid := over
end Go.Proofs.Ytnofpmdnpfijnaa.voteSame

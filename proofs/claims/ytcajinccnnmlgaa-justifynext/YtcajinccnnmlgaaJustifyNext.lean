/-
  what is justified and final at an epoch's end is what the document says (JustifyNext is true of every input).
-/
import Derived.Test.YtcajinccnnmlgaaRows

import Derived.WalkKit

import Derived.Below

import Derived.ProofKit

import Derived.OpenShut

import Derived.ShutString

import Derived.ChangeOld

import Derived.Test.YtcajinccnnmlgaaJAwake

import Derived.Test.YtcajinccnnmlgaaJEq

namespace Go.Proofs.Ytcajinccnnmlgaa.justifyNext

open Go.ChangeShapes Go.WideShapes Go.ChangeAt Go.RowKit

set_option linter.unusedVariables false

theorem own : ownKnob Try.prog.godebug = none := by kernel_rfl
theorem laidOut : laidOutB Try.prog = true := by kernel_rfl
theorem cells3 : Try.prog.cellsOf 3 = 1 := by kernel_rfl
theorem cells4 : Try.prog.cellsOf 4 = 1 := by kernel_rfl
theorem cells22 : Try.prog.cellsOf 22 = 4 := by kernel_rfl
theorem cells23 : Try.prog.cellsOf 23 = 1 := by kernel_rfl
theorem cells25 : Try.prog.cellsOf 25 = 2 := by kernel_rfl
theorem cells27 : Try.prog.cellsOf 27 = 10 := by kernel_rfl
theorem list2 {α : Type _} {l : List α} (h : l.length = 2) : ∃ x0 x1, l = [x0, x1] := by
  match l, h with
  | [x0, x1], _ => exact ⟨x0, x1, rfl⟩
theorem list4 {α : Type _} {l : List α} (h : l.length = 4) : ∃ x0 x1 x2 x3, l = [x0, x1, x2, x3] := by
  match l, h with
  | [x0, x1, x2, x3], _ => exact ⟨x0, x1, x2, x3, rfl⟩
theorem list10 {α : Type _} {l : List α} (h : l.length = 10) : ∃ x0 x1 x2 x3 x4 x5 x6 x7 x8 x9, l = [x0, x1, x2, x3, x4, x5, x6, x7, x8, x9] := by
  match l, h with
  | [x0, x1, x2, x3, x4, x5, x6, x7, x8, x9], _ => exact ⟨x0, x1, x2, x3, x4, x5, x6, x7, x8, x9, rfl⟩

set_option maxHeartbeats 4000000 in
set_option maxRecDepth 100000 in
theorem walk (a0_0 : Bool) (a0_1 : Bool) (a0_2 : Bool) (a0_3 : Bool) (a0_4 : Int) (a0_5 : Int) (a0_6 : Int) (a0_7 : Int) (a0_8 : Int) (a0_9 : Int) (a1 : Int) (a2 : Bool) (a3 : Bool) (a4_0 : Int) (a4_1 : Int) (a5_0 : Int) (a5_1 : Int) (w : World) (w0_4 : (Lit.int .i64 a0_4).wf = true) (w0_5 : (Lit.int .u64 a0_5).wf = true) (w0_6 : (Lit.int .i64 a0_6).wf = true) (w0_7 : (Lit.int .u64 a0_7).wf = true) (w0_8 : (Lit.int .i64 a0_8).wf = true) (w0_9 : (Lit.int .u64 a0_9).wf = true) (w1 : (Lit.int .i64 a1).wf = true) (w4_0 : (Lit.int .i64 a4_0).wf = true) (w4_1 : (Lit.int .u64 a4_1).wf = true) (w5_0 : (Lit.int .i64 a5_0).wf = true) (w5_1 : (Lit.int .u64 a5_1).wf = true) :
    Calls Try.prog 3 #[.agg #[.bool a0_0, .bool a0_1, .bool a0_2, .bool a0_3, .int .i64 a0_4, .int .u64 a0_5, .int .i64 a0_6, .int .u64 a0_7, .int .i64 a0_8, .int .u64 a0_9], .int .i64 a1, .bool a2, .bool a3, .agg #[.int .i64 a4_0, .int .u64 a4_1], .agg #[.int .i64 a5_0, .int .u64 a5_1]] w fun e w' => e = .returned (.bool true) ∧ Below w.heap.size w w' := by
  have HS := hide (((OAt.new w (.cells (scells a0_0 a0_1 a0_2 a0_3 a0_4 a0_5 a0_6 a0_7 a0_8 a0_9) 27)).alloc (.cells (pcells a4_0 a4_1) 25)).alloc (.cells (pcells a5_0 a5_1) 25))
  have HA := hide ((OAt.new (w.alloc (.cells (scells a0_0 a0_1 a0_2 a0_3 a0_4 a0_5 a0_6 a0_7 a0_8 a0_9) 27)) (.cells (pcells a4_0 a4_1) 25)).alloc (.cells (pcells a5_0 a5_1) 25))
  have HB := hide (OAt.new ((w.alloc (.cells (scells a0_0 a0_1 a0_2 a0_3 a0_4 a0_5 a0_6 a0_7 a0_8 a0_9) 27)).alloc (.cells (pcells a4_0 a4_1) 25)) (.cells (pcells a5_0 a5_1) 25))
  have HN := hide ((((Below.refl _ w).alloc (Nat.le_refl _) (.cells (scells a0_0 a0_1 a0_2 a0_3 a0_4 a0_5 a0_6 a0_7 a0_8 a0_9) 27)).alloc (by simp) (.cells (pcells a4_0 a4_1) 25)).alloc (by simp; omega) (.cells (pcells a5_0 a5_1) 25))
  simp only [World.size_alloc] at HS HA HB
  clear w0_4 w0_5 w0_6 w0_7 w0_8 w0_9 w1 w4_0 w4_1 w5_0 w5_1
  obtain ⟨B1, hB1⟩ : ∃ x, Hid (bit1 a0_0 a2 = x) := ⟨_, rfl⟩
  obtain ⟨C1, hC1⟩ : ∃ x, Hid ((bif a2 then a4_0 else a0_6) = x) := ⟨_, rfl⟩
  obtain ⟨D1, hD1⟩ : ∃ x, Hid ((bif a2 then a4_1 else a0_7) = x) := ⟨_, rfl⟩
  obtain ⟨C, hC⟩ : ∃ x, Hid ((bif a3 then a5_0 else C1) = x) := ⟨_, rfl⟩
  obtain ⟨D, hD⟩ : ∃ x, Hid ((bif a3 then a5_1 else D1) = x) := ⟨_, rfl⟩
  obtain ⟨X4, hX4⟩ : ∃ x, Hid (way4 B1 a0_1 a0_2 a0_4 a1 = x) := ⟨_, rfl⟩
  obtain ⟨F4, hF4⟩ : ∃ x, Hid ((bif X4 then a0_4 else a0_8) = x) := ⟨_, rfl⟩
  obtain ⟨R4, hR4⟩ : ∃ x, Hid ((bif X4 then a0_5 else a0_9) = x) := ⟨_, rfl⟩
  obtain ⟨X3, hX3⟩ : ∃ x, Hid (way3 B1 a0_1 a0_4 a1 = x) := ⟨_, rfl⟩
  obtain ⟨F3, hF3⟩ : ∃ x, Hid ((bif X3 then a0_4 else F4) = x) := ⟨_, rfl⟩
  obtain ⟨R3, hR3⟩ : ∃ x, Hid ((bif X3 then a0_5 else R4) = x) := ⟨_, rfl⟩
  obtain ⟨X2, hX2⟩ : ∃ x, Hid (way2 a3 B1 a0_1 a0_6 a1 = x) := ⟨_, rfl⟩
  obtain ⟨F2, hF2⟩ : ∃ x, Hid ((bif X2 then a0_6 else F3) = x) := ⟨_, rfl⟩
  obtain ⟨R2, hR2⟩ : ∃ x, Hid ((bif X2 then a0_7 else R3) = x) := ⟨_, rfl⟩
  obtain ⟨X, hX⟩ : ∃ x, Hid (way1 a3 B1 a0_6 a1 = x) := ⟨_, rfl⟩
  obtain ⟨F, hF⟩ : ∃ x, Hid ((bif X then a0_6 else F2) = x) := ⟨_, rfl⟩
  obtain ⟨R, hR⟩ : ∃ x, Hid ((bif X then a0_7 else R2) = x) := ⟨_, rfl⟩
  have HE : Hid (nextC a0_0 a0_1 a0_2 a0_4 a0_5 a0_6 a0_7 a0_8 a0_9 a1 a2 a3 a4_0 a4_1 a5_0 a5_1 = scells a3 B1 a0_1 a0_2 a0_6 a0_7 C D F R) := by
    show nextC _ _ _ _ _ _ _ _ _ _ _ _ _ _ _ _ = _
    rw [nextC, curI, curI, hB1.out, finI, finI, hC1.out, hD1.out, hC.out, hD.out, hX4.out, hX3.out, hX2.out, hX.out, hF4.out, hR4.out, hF3.out, hR3.out, hF2.out, hR2.out, hF.out, hR.out]
  go_enter Try.func3, Try.ntmps3
  go_wp2_with fail
  refine (awake_any _).mono ?_
  rintro e w1 ⟨rfl, hbel⟩
  replace HS := hide (HS.out.below hbel)
  replace HA := hide (HA.out.below hbel)
  replace HB := hide (HB.out.below hbel)
  replace HN := hide (HN.out.trans (hbel.mono HN.out.size))
  clear hbel
  have s0 := HS.out.cell 0
  have s1 := HS.out.cell 1
  have s2 := HS.out.cell 2
  have s3 := HS.out.cell 3
  have s4 := HS.out.cell 4
  have s5 := HS.out.cell 5
  have s6 := HS.out.cell 6
  have s7 := HS.out.cell 7
  have s8 := HS.out.cell 8
  have s9 := HS.out.cell 9
  simp only [List.getElem?_toArray, List.getElem?_cons_zero, List.getElem?_cons_succ] at s0 s1 s2 s3 s4 s5 s6 s7 s8 s9
  have p0 := HA.out.cell 0
  have p1 := HA.out.cell 1
  simp only [List.getElem?_toArray, List.getElem?_cons_zero, List.getElem?_cons_succ] at p0 p1
  have d0 := HB.out.cell 0
  have d1 := HB.out.cell 1
  simp only [List.getElem?_toArray, List.getElem?_cons_zero, List.getElem?_cons_succ] at d0 d1
  go_wp2_with fail
  refine (next_any _ _ _ _ _ _ _ _ _ _ _ _ _ _ _ _ _ _).mono ?_
  rintro e w2 ⟨rfl, hbel⟩
  rw [HE.out]
  clear s0 s1 s2 s3 s4 s5 s6 s7 s8 s9 p0 p1 d0 d1
  clear HE
  replace HS := hide (HS.out.below hbel)
  replace HA := hide (HA.out.below hbel)
  replace HB := hide (HB.out.below hbel)
  replace HN := hide (HN.out.trans (hbel.mono HN.out.size))
  clear hbel
  have HV := hide (OAt.new w2 (.cells (scells a3 B1 a0_1 a0_2 a0_6 a0_7 C D F R) 27))
  replace HS := hide (HS.out.alloc (.cells (scells a3 B1 a0_1 a0_2 a0_6 a0_7 C D F R) 27))
  replace HA := hide (HA.out.alloc (.cells (scells a3 B1 a0_1 a0_2 a0_6 a0_7 C D F R) 27))
  replace HB := hide (HB.out.alloc (.cells (scells a3 B1 a0_1 a0_2 a0_6 a0_7 C D F R) 27))
  replace HN := hide (HN.out.alloc HN.out.size (.cells (scells a3 B1 a0_1 a0_2 a0_6 a0_7 C D F R) 27))
  go_upto_region 4 with fail
  generalize hg : w2.heap.size = g at HV ⊢
  generalize w2.alloc (.cells (scells a3 B1 a0_1 a0_2 a0_6 a0_7 C D F R) 27) = w3 at HS HA HB HN HV ⊢
  clear hg
  have s0 := HS.out.cell 0
  have s1 := HS.out.cell 1
  have s2 := HS.out.cell 2
  have s3 := HS.out.cell 3
  have s4 := HS.out.cell 4
  have s5 := HS.out.cell 5
  have s6 := HS.out.cell 6
  have s7 := HS.out.cell 7
  have s8 := HS.out.cell 8
  have s9 := HS.out.cell 9
  simp only [List.getElem?_toArray, List.getElem?_cons_zero, List.getElem?_cons_succ] at s0 s1 s2 s3 s4 s5 s6 s7 s8 s9
  go_cut [0, 2, 3, 14] from 17 to 39 (fun x0 x2 x3 x wx => x2 = .bool a2 ∧ x3 = .bool a3 ∧ x = .pointer (some ⟨w3.heap.size, 0, none⟩) ∧ wx = w3.alloc (.cells (bcells a3 B1 a0_1 a0_2) 22))
  case first =>
    go_wp2
    all_goals
      go_meet
      exact ⟨by simp [*], by simp [*], rfl, by rw [← hB1.out]; simp [bit1, *]⟩
  case rest =>
    obtain ⟨rfl, rfl, rfl, hwc⟩ := hcut
    clear s0 s1 s2 s3 s4 s5 s6 s7 s8 s9
    have HT := hide (OAt.new w3 (.cells (bcells a3 B1 a0_1 a0_2) 22))
    replace HS := hide (HS.out.alloc (.cells (bcells a3 B1 a0_1 a0_2) 22))
    replace HA := hide (HA.out.alloc (.cells (bcells a3 B1 a0_1 a0_2) 22))
    replace HB := hide (HB.out.alloc (.cells (bcells a3 B1 a0_1 a0_2) 22))
    replace HV := hide (HV.out.alloc (.cells (bcells a3 B1 a0_1 a0_2) 22))
    replace HN := hide (HN.out.alloc HN.out.size (.cells (bcells a3 B1 a0_1 a0_2) 22))
    rw [← hwc] at HT HS HA HB HV HN
    clear hwc
    generalize w3.heap.size = t at HT ⊢
    generalize wc = w5 at *
    have s6 := HS.out.cell 6
    have s7 := HS.out.cell 7
    simp only [List.getElem?_toArray, List.getElem?_cons_zero, List.getElem?_cons_succ] at s6 s7
    have sx4 : ∀ o, (w5.alloc o).cell? ⟨w.heap.size, 4, none⟩ = some (.int .i64 a0_4) := fun o => (HS.out.alloc o).cell 4
    have sx5 : ∀ o, (w5.alloc o).cell? ⟨w.heap.size, 5, none⟩ = some (.int .u64 a0_5) := fun o => (HS.out.alloc o).cell 5
    have sx6 : ∀ o, (w5.alloc o).cell? ⟨w.heap.size, 6, none⟩ = some (.int .i64 a0_6) := fun o => (HS.out.alloc o).cell 6
    have sx7 : ∀ o, (w5.alloc o).cell? ⟨w.heap.size, 7, none⟩ = some (.int .u64 a0_7) := fun o => (HS.out.alloc o).cell 7
    have sx8 : ∀ o, (w5.alloc o).cell? ⟨w.heap.size, 8, none⟩ = some (.int .i64 a0_8) := fun o => (HS.out.alloc o).cell 8
    have sx9 : ∀ o, (w5.alloc o).cell? ⟨w.heap.size, 9, none⟩ = some (.int .u64 a0_9) := fun o => (HS.out.alloc o).cell 9
    have px0 : ∀ o, (w5.alloc o).cell? ⟨w.heap.size + 1, 0, none⟩ = some (.int .i64 a4_0) := fun o => (HA.out.alloc o).cell 0
    have px1 : ∀ o, (w5.alloc o).cell? ⟨w.heap.size + 1, 1, none⟩ = some (.int .u64 a4_1) := fun o => (HA.out.alloc o).cell 1
    have dx0 : ∀ o, (w5.alloc o).cell? ⟨w.heap.size + 1 + 1, 0, none⟩ = some (.int .i64 a5_0) := fun o => (HB.out.alloc o).cell 0
    have dx1 : ∀ o, (w5.alloc o).cell? ⟨w.heap.size + 1 + 1, 1, none⟩ = some (.int .u64 a5_1) := fun o => (HB.out.alloc o).cell 1
    have sy4 : ∀ o o2, ((w5.alloc o).alloc o2).cell? ⟨w.heap.size, 4, none⟩ = some (.int .i64 a0_4) := fun o o2 => ((HS.out.alloc o).alloc o2).cell 4
    have sy5 : ∀ o o2, ((w5.alloc o).alloc o2).cell? ⟨w.heap.size, 5, none⟩ = some (.int .u64 a0_5) := fun o o2 => ((HS.out.alloc o).alloc o2).cell 5
    have sy6 : ∀ o o2, ((w5.alloc o).alloc o2).cell? ⟨w.heap.size, 6, none⟩ = some (.int .i64 a0_6) := fun o o2 => ((HS.out.alloc o).alloc o2).cell 6
    have sy7 : ∀ o o2, ((w5.alloc o).alloc o2).cell? ⟨w.heap.size, 7, none⟩ = some (.int .u64 a0_7) := fun o o2 => ((HS.out.alloc o).alloc o2).cell 7
    have ny0 : ∀ o o2, ((w5.alloc o).alloc o2).cell? ⟨g, 0, none⟩ = some (.bool a3) := fun o o2 => ((HV.out.alloc o).alloc o2).cell 0
    have ny1 : ∀ o o2, ((w5.alloc o).alloc o2).cell? ⟨g, 1, none⟩ = some (.bool B1) := fun o o2 => ((HV.out.alloc o).alloc o2).cell 1
    have ny2 : ∀ o o2, ((w5.alloc o).alloc o2).cell? ⟨g, 2, none⟩ = some (.bool a0_1) := fun o o2 => ((HV.out.alloc o).alloc o2).cell 2
    have ny3 : ∀ o o2, ((w5.alloc o).alloc o2).cell? ⟨g, 3, none⟩ = some (.bool a0_2) := fun o o2 => ((HV.out.alloc o).alloc o2).cell 3
    have ny4 : ∀ o o2, ((w5.alloc o).alloc o2).cell? ⟨g, 4, none⟩ = some (.int .i64 a0_6) := fun o o2 => ((HV.out.alloc o).alloc o2).cell 4
    have ny5 : ∀ o o2, ((w5.alloc o).alloc o2).cell? ⟨g, 5, none⟩ = some (.int .u64 a0_7) := fun o o2 => ((HV.out.alloc o).alloc o2).cell 5
    have ny6 : ∀ o o2, ((w5.alloc o).alloc o2).cell? ⟨g, 6, none⟩ = some (.int .i64 C) := fun o o2 => ((HV.out.alloc o).alloc o2).cell 6
    have ny7 : ∀ o o2, ((w5.alloc o).alloc o2).cell? ⟨g, 7, none⟩ = some (.int .u64 D) := fun o o2 => ((HV.out.alloc o).alloc o2).cell 7
    have ny8 : ∀ o o2, ((w5.alloc o).alloc o2).cell? ⟨g, 8, none⟩ = some (.int .i64 F) := fun o o2 => ((HV.out.alloc o).alloc o2).cell 8
    have ny9 : ∀ o o2, ((w5.alloc o).alloc o2).cell? ⟨g, 9, none⟩ = some (.int .u64 R) := fun o o2 => ((HV.out.alloc o).alloc o2).cell 9
    have ty0 : ∀ o o2, ((w5.alloc o).alloc o2).cell? ⟨t, 0, none⟩ = some (.bool a3) := fun o o2 => ((HT.out.alloc o).alloc o2).cell 0
    have ty1 : ∀ o o2, ((w5.alloc o).alloc o2).cell? ⟨t, 1, none⟩ = some (.bool B1) := fun o o2 => ((HT.out.alloc o).alloc o2).cell 1
    have ty2 : ∀ o o2, ((w5.alloc o).alloc o2).cell? ⟨t, 2, none⟩ = some (.bool a0_1) := fun o o2 => ((HT.out.alloc o).alloc o2).cell 2
    have ty3 : ∀ o o2, ((w5.alloc o).alloc o2).cell? ⟨t, 3, none⟩ = some (.bool a0_2) := fun o o2 => ((HT.out.alloc o).alloc o2).cell 3
    go_upto_if 42 with fail
    go_cut [2] from 42 to 43 (fun x2 wx => wx = w5.alloc (.cells (pcells C1 D1) 25))
    case first =>
      go_wp2
      all_goals
        go_meet
        exact by rw [← hC1.out, ← hD1.out]; simp [*]
    case rest =>
      obtain rfl := hcut
      go_upto_if 44 with fail
      go_cut [3] from 44 to 45 (fun x3 wx => wx = w5.alloc (.cells (pcells C D) 25))
      case first =>
        go_wp2
        all_goals
          go_meet
          exact by rw [← hC.out, ← hD.out]; simp [*]
      case rest =>
        obtain rfl := hcut
        go_upto_region 11 with fail
        go_cut [65] from 48 to 65 (fun x wx => x = .bool X4 ∧ wx = (w5.alloc (.cells (pcells C D) 25)).alloc (.cells (pcells a0_8 a0_9) 25))
        case first =>
          go_wp2
          all_goals
            go_meet
            exact ⟨by rw [← hX4.out]; simp [way4, *], rfl⟩
        case rest =>
          obtain ⟨rfl, rfl⟩ := hcut
          go_upto_if 65 with fail
          go_cut [] from 65 to 67 (fun wx => wx = (w5.alloc (.cells (pcells C D) 25)).alloc (.cells (pcells F4 R4) 25))
          case first =>
            go_wp2
            all_goals
              go_meet
              exact by rw [← hF4.out, ← hR4.out]; simp [*]
          case rest =>
            obtain rfl := hcut
            go_upto_region 13 with fail
            go_cut [81] from 68 to 81 (fun x wx => x = .bool X3 ∧ wx = (w5.alloc (.cells (pcells C D) 25)).alloc (.cells (pcells F4 R4) 25))
            case first =>
              go_wp2
              all_goals
                go_meet
                exact ⟨by rw [← hX3.out]; simp [way3, *], rfl⟩
            case rest =>
              obtain ⟨rfl, rfl⟩ := hcut
              go_upto_if 81 with fail
              go_cut [] from 81 to 83 (fun wx => wx = (w5.alloc (.cells (pcells C D) 25)).alloc (.cells (pcells F3 R3) 25))
              case first =>
                go_wp2
                all_goals
                  go_meet
                  exact by rw [← hF3.out, ← hR3.out]; simp [*]
              case rest =>
                obtain rfl := hcut
                go_upto_region 15 with fail
                go_cut [101] from 84 to 101 (fun x wx => x = .bool X2 ∧ wx = (w5.alloc (.cells (pcells C D) 25)).alloc (.cells (pcells F3 R3) 25))
                case first =>
                  go_wp2
                  all_goals
                    go_meet
                    exact ⟨by rw [← hX2.out]; simp [way2, *], rfl⟩
                case rest =>
                  obtain ⟨rfl, rfl⟩ := hcut
                  go_upto_if 101 with fail
                  go_cut [] from 101 to 103 (fun wx => wx = (w5.alloc (.cells (pcells C D) 25)).alloc (.cells (pcells F2 R2) 25))
                  case first =>
                    go_wp2
                    all_goals
                      go_meet
                      exact by rw [← hF2.out, ← hR2.out]; simp [*]
                  case rest =>
                    obtain rfl := hcut
                    go_upto_region 17 with fail
                    go_cut [117] from 104 to 117 (fun x wx => x = .bool X ∧ wx = (w5.alloc (.cells (pcells C D) 25)).alloc (.cells (pcells F2 R2) 25))
                    case first =>
                      go_wp2
                      all_goals
                        go_meet
                        exact ⟨by rw [← hX.out]; simp [way1, *], rfl⟩
                    case rest =>
                      obtain ⟨rfl, rfl⟩ := hcut
                      go_upto_if 117 with fail
                      go_cut [] from 117 to 119 (fun wx => wx = (w5.alloc (.cells (pcells C D) 25)).alloc (.cells (pcells F R) 25))
                      case first =>
                        go_wp2
                        all_goals
                          go_meet
                          exact by rw [← hF.out, ← hR.out]; simp [*]
                      case rest =>
                        obtain rfl := hcut
                        have heq := eq4w
                        go_wp2
                        go_ret
                        exact ⟨rfl, (HN.out.alloc HN.out.size _).alloc (by have := HN.out.size; simp; omega) _⟩

set_option maxRecDepth 100000 in
theorem lifted (os : Os) (started : os.Started) (H : Type) (enc : TypeId × Value → H) :
    ReturnsInHanded {} Try.checked os 3 .any (Rows.justifyNextSpec.pre6 enc Try.prog Try.f3 Rows.justifyNextRow.domain false) (Rows.justifyNextSpec.post enc Try.prog Try.f3 false true false false) := by
  refine returnsInHanded_of_change (C := Try.checked) own started (by kernel_rfl) Try.func3
    (ChangeSpec.witness6 (enc := enc) (C := Try.checked) false ⟨#[], #[.agg #[.bool false, .bool false, .bool false, .bool false, .int .i64 0, .int .u64 0, .int .i64 0, .int .u64 0, .int .i64 0, .int .u64 0], .int .i64 0, .bool false, .bool false, .agg #[.int .i64 0, .int .u64 0], .agg #[.int .i64 0, .int .u64 0]], []⟩ 8 (by kernel_rfl) (by kernel_rfl) (by kernel_rfl) (by kernel_rfl)) ?_
  intro W base args ds gs before hval0 hW hcnd _
  have hval : ∀ (j : Nat) t v, Try.f3.params[j]? = some t → args[j]? = some v → Value.okWide Try.prog W .any base t v := hval0
  have hW' := hW
  obtain ⟨p, q, hA0, hV, rfl, hfz, hnd⟩ := hW
  have hA : DataW.TrodAll enc Try.prog W 0 (fun _ => true) true Try.f3.params.toList args.toList ds p := hA0
  rw [Try.params3] at hA hval
  obtain ⟨v0, vs0, d0, ds0, p0, q0, hargs, rfl, rfl, h0, r0⟩ := trodAll_cons hA
  obtain ⟨v1, vs1, d1, ds1, p1, q1, rfl, rfl, rfl, h1, r1⟩ := trodAll_cons r0
  obtain ⟨v2, vs2, d2, ds2, p2, q2, rfl, rfl, rfl, h2, r2⟩ := trodAll_cons r1
  obtain ⟨v3, vs3, d3, ds3, p3, q3, rfl, rfl, rfl, h3, r3⟩ := trodAll_cons r2
  obtain ⟨v4, vs4, d4, ds4, p4, q4, rfl, rfl, rfl, h4, r4⟩ := trodAll_cons r3
  obtain ⟨v5, vs5, d5, ds5, p5, q5, rfl, rfl, rfl, h5, r5⟩ := trodAll_cons r4
  obtain ⟨rfl, rfl, rfl⟩ := trodAll_nil r5
  obtain rfl : args = #[v0, v1, v2, v3, v4, v5] := by cases args; simp_all
  obtain ⟨rfl, rfl⟩ := trodVars_none hV
  obtain ⟨cs0, rfl, sz0⟩ := okWide_struct Try.underlying27 (hval 0 27 v0 rfl rfl)
  rw [cells27] at sz0
  obtain ⟨l0⟩ := cs0
  obtain ⟨c0_0, c0_1, c0_2, c0_3, c0_4, c0_5, c0_6, c0_7, c0_8, c0_9, rfl⟩ := list10 (show l0.length = 10 from sz0)
  clear sz0
  have k0 := h0
  have lt0 : ∀ x ∈ p0, x.block < W.heap.size := by obtain ⟨m, hm⟩ := k0; exact DataW.trod_lt m _ _ _ hm
  obtain ⟨fuel0, hf0⟩ := h0
  simp only [Value.cells] at hf0
  obtain ⟨xs0_0t27, n0_0t27, _, hx0_0t27, _, hlen0_0t27, hf0_0t27⟩ := DataW.trod_struct Try.underlying27 hf0
  obtain ⟨y0_0t27_0, y0_0t27_1, y0_0t27_2, y0_0t27_3, rfl⟩ := list4 (show xs0_0t27.length = 4 from hlen0_0t27)
  have hy0_0t27_0 : DataW.trod enc Try.prog W 0 (fun _ => true) true n0_0t27 22 [c0_0, c0_1, c0_2, c0_3] = some y0_0t27_0 := by simpa [Value.cells, cells3, cells4, cells22, cells23, cells25, cells27] using hf0_0t27 0 _ rfl
  have hy0_0t27_1 : DataW.trod enc Try.prog W 0 (fun _ => true) true n0_0t27 25 [c0_4, c0_5] = some y0_0t27_1 := by simpa [Value.cells, cells3, cells4, cells22, cells23, cells25, cells27] using hf0_0t27 1 _ rfl
  have hy0_0t27_2 : DataW.trod enc Try.prog W 0 (fun _ => true) true n0_0t27 25 [c0_6, c0_7] = some y0_0t27_2 := by simpa [Value.cells, cells3, cells4, cells22, cells23, cells25, cells27] using hf0_0t27 2 _ rfl
  have hy0_0t27_3 : DataW.trod enc Try.prog W 0 (fun _ => true) true n0_0t27 25 [c0_8, c0_9] = some y0_0t27_3 := by simpa [Value.cells, cells3, cells4, cells22, cells23, cells25, cells27] using hf0_0t27 3 _ rfl
  obtain ⟨xs0_0t22, n0_0t22, _, hx0_0t22, _, hlen0_0t22, hf0_0t22⟩ := DataW.trod_array Try.underlying22 hy0_0t27_0
  obtain ⟨y0_0t22_0, y0_0t22_1, y0_0t22_2, y0_0t22_3, rfl⟩ := list4 (show xs0_0t22.length = 4 from hlen0_0t22)
  have hy0_0t22_0 : DataW.trod enc Try.prog W 0 (fun _ => true) true n0_0t22 4 [c0_0] = some y0_0t22_0 := by simpa [cells3, cells4, cells22, cells23, cells25, cells27] using hf0_0t22 0 (by decide)
  have hy0_0t22_1 : DataW.trod enc Try.prog W 0 (fun _ => true) true n0_0t22 4 [c0_1] = some y0_0t22_1 := by simpa [cells3, cells4, cells22, cells23, cells25, cells27] using hf0_0t22 1 (by decide)
  have hy0_0t22_2 : DataW.trod enc Try.prog W 0 (fun _ => true) true n0_0t22 4 [c0_2] = some y0_0t22_2 := by simpa [cells3, cells4, cells22, cells23, cells25, cells27] using hf0_0t22 2 (by decide)
  have hy0_0t22_3 : DataW.trod enc Try.prog W 0 (fun _ => true) true n0_0t22 4 [c0_3] = some y0_0t22_3 := by simpa [cells3, cells4, cells22, cells23, cells25, cells27] using hf0_0t22 3 (by decide)
  obtain ⟨a0_0, e0_0, x0_0⟩ := DataW.trod_bool Try.underlying4 hy0_0t22_0
  simp at e0_0
  subst e0_0
  obtain ⟨a0_1, e0_1, x0_1⟩ := DataW.trod_bool Try.underlying4 hy0_0t22_1
  simp at e0_1
  subst e0_1
  obtain ⟨a0_2, e0_2, x0_2⟩ := DataW.trod_bool Try.underlying4 hy0_0t22_2
  simp at e0_2
  subst e0_2
  obtain ⟨a0_3, e0_3, x0_3⟩ := DataW.trod_bool Try.underlying4 hy0_0t22_3
  simp at e0_3
  subst e0_3
  obtain ⟨xs0_4t25, n0_4t25, _, hx0_4t25, _, hlen0_4t25, hf0_4t25⟩ := DataW.trod_struct Try.underlying25 hy0_0t27_1
  obtain ⟨y0_4t25_0, y0_4t25_1, rfl⟩ := list2 (show xs0_4t25.length = 2 from hlen0_4t25)
  have hy0_4t25_0 : DataW.trod enc Try.prog W 0 (fun _ => true) true n0_4t25 3 [c0_4] = some y0_4t25_0 := by simpa [Value.cells, cells3, cells4, cells22, cells23, cells25, cells27] using hf0_4t25 0 _ rfl
  have hy0_4t25_1 : DataW.trod enc Try.prog W 0 (fun _ => true) true n0_4t25 23 [c0_5] = some y0_4t25_1 := by simpa [Value.cells, cells3, cells4, cells22, cells23, cells25, cells27] using hf0_4t25 1 _ rfl
  obtain ⟨a0_4, e0_4, x0_4, w0_4⟩ := DataW.trod_int Try.underlying3 hy0_4t25_0
  simp at e0_4
  subst e0_4
  obtain ⟨a0_5, e0_5, x0_5, w0_5⟩ := DataW.trod_int Try.underlying23 hy0_4t25_1
  simp at e0_5
  subst e0_5
  obtain ⟨xs0_6t25, n0_6t25, _, hx0_6t25, _, hlen0_6t25, hf0_6t25⟩ := DataW.trod_struct Try.underlying25 hy0_0t27_2
  obtain ⟨y0_6t25_0, y0_6t25_1, rfl⟩ := list2 (show xs0_6t25.length = 2 from hlen0_6t25)
  have hy0_6t25_0 : DataW.trod enc Try.prog W 0 (fun _ => true) true n0_6t25 3 [c0_6] = some y0_6t25_0 := by simpa [Value.cells, cells3, cells4, cells22, cells23, cells25, cells27] using hf0_6t25 0 _ rfl
  have hy0_6t25_1 : DataW.trod enc Try.prog W 0 (fun _ => true) true n0_6t25 23 [c0_7] = some y0_6t25_1 := by simpa [Value.cells, cells3, cells4, cells22, cells23, cells25, cells27] using hf0_6t25 1 _ rfl
  obtain ⟨a0_6, e0_6, x0_6, w0_6⟩ := DataW.trod_int Try.underlying3 hy0_6t25_0
  simp at e0_6
  subst e0_6
  obtain ⟨a0_7, e0_7, x0_7, w0_7⟩ := DataW.trod_int Try.underlying23 hy0_6t25_1
  simp at e0_7
  subst e0_7
  obtain ⟨xs0_8t25, n0_8t25, _, hx0_8t25, _, hlen0_8t25, hf0_8t25⟩ := DataW.trod_struct Try.underlying25 hy0_0t27_3
  obtain ⟨y0_8t25_0, y0_8t25_1, rfl⟩ := list2 (show xs0_8t25.length = 2 from hlen0_8t25)
  have hy0_8t25_0 : DataW.trod enc Try.prog W 0 (fun _ => true) true n0_8t25 3 [c0_8] = some y0_8t25_0 := by simpa [Value.cells, cells3, cells4, cells22, cells23, cells25, cells27] using hf0_8t25 0 _ rfl
  have hy0_8t25_1 : DataW.trod enc Try.prog W 0 (fun _ => true) true n0_8t25 23 [c0_9] = some y0_8t25_1 := by simpa [Value.cells, cells3, cells4, cells22, cells23, cells25, cells27] using hf0_8t25 1 _ rfl
  obtain ⟨a0_8, e0_8, x0_8, w0_8⟩ := DataW.trod_int Try.underlying3 hy0_8t25_0
  simp at e0_8
  subst e0_8
  obtain ⟨a0_9, e0_9, x0_9, w0_9⟩ := DataW.trod_int Try.underlying23 hy0_8t25_1
  simp at e0_9
  subst e0_9
  obtain ⟨a1, rfl, rfl, rfl, w1⟩ := open_int Try.underlying3 (hval 1 3 v1 rfl rfl) h1
  obtain ⟨a2, rfl, rfl, rfl⟩ := open_bool Try.underlying4 (hval 2 4 v2 rfl rfl) h2
  obtain ⟨a3, rfl, rfl, rfl⟩ := open_bool Try.underlying4 (hval 3 4 v3 rfl rfl) h3
  obtain ⟨cs4, rfl, sz4⟩ := okWide_struct Try.underlying25 (hval 4 25 v4 rfl rfl)
  rw [cells25] at sz4
  obtain ⟨l4⟩ := cs4
  obtain ⟨c4_0, c4_1, rfl⟩ := list2 (show l4.length = 2 from sz4)
  clear sz4
  have k4 := h4
  have lt4 : ∀ x ∈ p4, x.block < W.heap.size := by obtain ⟨m, hm⟩ := k4; exact DataW.trod_lt m _ _ _ hm
  obtain ⟨fuel4, hf4⟩ := h4
  simp only [Value.cells] at hf4
  obtain ⟨xs4_0t25, n4_0t25, _, hx4_0t25, _, hlen4_0t25, hf4_0t25⟩ := DataW.trod_struct Try.underlying25 hf4
  obtain ⟨y4_0t25_0, y4_0t25_1, rfl⟩ := list2 (show xs4_0t25.length = 2 from hlen4_0t25)
  have hy4_0t25_0 : DataW.trod enc Try.prog W 0 (fun _ => true) true n4_0t25 3 [c4_0] = some y4_0t25_0 := by simpa [Value.cells, cells3, cells4, cells22, cells23, cells25, cells27] using hf4_0t25 0 _ rfl
  have hy4_0t25_1 : DataW.trod enc Try.prog W 0 (fun _ => true) true n4_0t25 23 [c4_1] = some y4_0t25_1 := by simpa [Value.cells, cells3, cells4, cells22, cells23, cells25, cells27] using hf4_0t25 1 _ rfl
  obtain ⟨a4_0, e4_0, x4_0, w4_0⟩ := DataW.trod_int Try.underlying3 hy4_0t25_0
  simp at e4_0
  subst e4_0
  obtain ⟨a4_1, e4_1, x4_1, w4_1⟩ := DataW.trod_int Try.underlying23 hy4_0t25_1
  simp at e4_1
  subst e4_1
  obtain ⟨cs5, rfl, sz5⟩ := okWide_struct Try.underlying25 (hval 5 25 v5 rfl rfl)
  rw [cells25] at sz5
  obtain ⟨l5⟩ := cs5
  obtain ⟨c5_0, c5_1, rfl⟩ := list2 (show l5.length = 2 from sz5)
  clear sz5
  have k5 := h5
  have lt5 : ∀ x ∈ p5, x.block < W.heap.size := by obtain ⟨m, hm⟩ := k5; exact DataW.trod_lt m _ _ _ hm
  obtain ⟨fuel5, hf5⟩ := h5
  simp only [Value.cells] at hf5
  obtain ⟨xs5_0t25, n5_0t25, _, hx5_0t25, _, hlen5_0t25, hf5_0t25⟩ := DataW.trod_struct Try.underlying25 hf5
  obtain ⟨y5_0t25_0, y5_0t25_1, rfl⟩ := list2 (show xs5_0t25.length = 2 from hlen5_0t25)
  have hy5_0t25_0 : DataW.trod enc Try.prog W 0 (fun _ => true) true n5_0t25 3 [c5_0] = some y5_0t25_0 := by simpa [Value.cells, cells3, cells4, cells22, cells23, cells25, cells27] using hf5_0t25 0 _ rfl
  have hy5_0t25_1 : DataW.trod enc Try.prog W 0 (fun _ => true) true n5_0t25 23 [c5_1] = some y5_0t25_1 := by simpa [Value.cells, cells3, cells4, cells22, cells23, cells25, cells27] using hf5_0t25 1 _ rfl
  obtain ⟨a5_0, e5_0, x5_0, w5_0⟩ := DataW.trod_int Try.underlying3 hy5_0t25_0
  simp at e5_0
  subst e5_0
  obtain ⟨a5_1, e5_1, x5_1, w5_1⟩ := DataW.trod_int Try.underlying23 hy5_0t25_1
  simp at e5_1
  subst e5_1
  clear hA0 hval0
  refine (walk a0_0 a0_1 a0_2 a0_3 a0_4 a0_5 a0_6 a0_7 a0_8 a0_9 a1 a2 a3 a4_0 a4_1 a5_0 a5_1 W w0_4 w0_5 w0_6 w0_7 w0_8 w0_9 w1 w4_0 w4_1 w5_0 w5_1).mono fun e W' ⟨he, bel⟩ => ?_
  subst he
  exact ⟨_, rfl, _, _, _, [], _, [], hW', trodAll_mk1 (shut_bool Try.underlying4 _), (trodAll_cons_mk (Below.trod laidOut (by kernel_rfl) (of_decide_eq_true (by kernel_rfl)) k0 bel lt0) (trodAll_cons_mk (shut_int Try.underlying3 w1) (trodAll_cons_mk (shut_bool Try.underlying4 _) (trodAll_cons_mk (shut_bool Try.underlying4 _) (trodAll_cons_mk (Below.trod laidOut (by kernel_rfl) (of_decide_eq_true (by kernel_rfl)) k4 bel lt4) (trodAll_cons_mk (Below.trod laidOut (by kernel_rfl) (of_decide_eq_true (by kernel_rfl)) k5 bel lt5) trodAll_mk0)))))), rfl, bel.frame _, fun h => by cases h⟩

theorem over : Rows.justifyNextRow.holds Try.pinned (OpenSpec.ofChange Rows.justifyNextSpec) :=
  OpenClaim.holds_of_wide 3 Try.f3 rfl rfl rfl rfl rfl rfl rfl ⟨rfl, rfl, rfl, rfl, rfl⟩ rfl rfl rfl rfl rfl (by kernel_rfl) Try.func3 (by kernel_rfl)
    (of_decide_eq_true (by kernel_rfl)) (by unfold Func.isWrapper; first | (rw [if_pos (by decide +kernel)]; kernel_rfl) | (rw [if_neg (by decide +kernel)]; exact ⟨rfl, rfl⟩))
    (fun os started H enc _ => lifted os started H enc)

theorem proved : Rows.JustifyNextSaid := over
end Go.Proofs.Ytcajinccnnmlgaa.justifyNext

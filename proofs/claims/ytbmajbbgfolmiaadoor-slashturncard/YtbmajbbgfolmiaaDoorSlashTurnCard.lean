/-
  a proof shows the same whichever of its votes is first (SlashTurn is true of every input); the package variable errors.errorType reads as the program's text lays it. This is the tied card.
-/
import Derived.Test.YtbmajbbgfolmiaaDoorRows

import Derived.Test.YtbmajbbgfolmiaaDoorTie

import Derived.Test.YtbmajbbgfolmiaaDoorCards

import Derived.ChangeSame

import Derived.ChangeVars

import Derived.JoinedOf

import Derived.RowKit

import Derived.RowKitTokens

import Derived.LaidLaws

import Derived.LaidHandle

import Derived.Stop.Joined

import Derived.SevenTiedAt

import Derived.WalkKit

import Derived.Below

import Derived.ProofKit

import Derived.OpenShut

import Derived.ShutString

import Derived.ChangeOld

import Derived.Test.YtbmajbbgfolmiaaDoorSWho

import Derived.Test.YtbmajbbgfolmiaaDoorVSet

import Derived.Test.YtbmajbbgfolmiaaDoorANumb2

import Derived.Test.YtbmajbbgfolmiaaDoorHand

import Derived.Deep.CutRange

namespace Go.Proofs.YtbmajbbgfolmiaaDoor.slashTurnCard

open Go.ChangeShapes Go.WideShapes Go.ChangeAt Go.RowKit

set_option linter.unusedVariables false

theorem et : Tryd.prog.globalNamed "errors.errorType" = some 0 := by kernel_rfl
theorem rt : (Tryd.prog.cutTypes.find? (·.1 == "internal/reflectlite.rtype")).map (·.2) = some 76 := by kernel_rfl
theorem size : Tryd.prog.types.size = 137 := by kernel_rfl
theorem oneRow : ((List.range 137).filter fun t => Tryd.prog.rowNamed t [101, 114, 114, 111, 114]) = [35] := by kernel_rfl
abbrev laid : List (String × DataW Unit) := [("errors.errorType", Rows.laid_errors_errorType)]
theorem handle_of_laid {W : World} (h : laidMetH Tryd.prog laid W) : W.cell? ⟨0, 0, none⟩ = some (.iface 76 (.agg #[.pointer (some ⟨1, 35, none⟩)])) := by
  have h' : laidMet Tryd.prog [] W ∧ handlesMet Tryd.prog laid W := h
  obtain ⟨name, u, ty, e1, e2, e3, e4, e5⟩ := h'.2 _ (List.mem_singleton.2 rfl)
  have en : name = [101, 114, 114, 111, 114] := (Option.some.inj e1).symm
  subst en
  obtain rfl := Option.some.inj (rt.symm.trans e2)
  have hm : ty ∈ (List.range 137).filter fun t => Tryd.prog.rowNamed t [101, 114, 114, 111, 114] := List.mem_filter.2 ⟨List.mem_range.2 (by rw [← size]; exact e3), e4⟩
  rw [oneRow] at hm
  obtain rfl := List.mem_singleton.1 hm
  have hh : typeHandle Tryd.prog 35 = .pointer (some ⟨1, 35, none⟩) := by kernel_rfl
  rw [hh] at e5
  simpa using World.var?_cell et e5 0
noncomputable def laidWorld (os : Os) : World :=
  let w0 := World.holding Tryd.prog os ⟨#[], #[], []⟩
  { w0 with heap := w0.heap.modify 0 fun
      | .cells _ t frozen => .cells #[.iface 76 (.agg #[.pointer (some ⟨1, 35, none⟩)])] t frozen
      | o => o }
theorem laidWorld_met (os : Os) (args : Array Value) : laidMetH Tryd.prog laid ((laidWorld os).forCall (fun _ _ => 0) ⟨#[], args, []⟩).memory :=
  laidMetH_of_parts (laidMet_nil _ _) (by kernel_rfl)
theorem own : ownKnob Tryd.prog.godebug = none := by kernel_rfl
theorem laidOut : laidOutB Tryd.prog = true := by kernel_rfl
theorem cells3 : Tryd.prog.cellsOf 3 = 1 := by kernel_rfl
theorem cells4 : Tryd.prog.cellsOf 4 = 1 := by kernel_rfl
theorem cells22 : Tryd.prog.cellsOf 22 = 1 := by kernel_rfl
theorem cells24 : Tryd.prog.cellsOf 24 = 3 := by kernel_rfl
theorem cells25 : Tryd.prog.cellsOf 25 = 1 := by kernel_rfl
theorem cells27 : Tryd.prog.cellsOf 27 = 2 := by kernel_rfl
theorem cells28 : Tryd.prog.cellsOf 28 = 1 := by kernel_rfl
theorem cells30 : Tryd.prog.cellsOf 30 = 7 := by kernel_rfl
theorem list2 {α : Type _} {l : List α} (h : l.length = 2) : ∃ x0 x1, l = [x0, x1] := by
  match l, h with
  | [x0, x1], _ => exact ⟨x0, x1, rfl⟩
theorem list3 {α : Type _} {l : List α} (h : l.length = 3) : ∃ x0 x1 x2, l = [x0, x1, x2] := by
  match l, h with
  | [x0, x1, x2], _ => exact ⟨x0, x1, x2, rfl⟩
theorem list5 {α : Type _} {l : List α} (h : l.length = 5) : ∃ x0 x1 x2 x3 x4, l = [x0, x1, x2, x3, x4] := by
  match l, h with
  | [x0, x1, x2, x3, x4], _ => exact ⟨x0, x1, x2, x3, x4, rfl⟩
theorem list7 {α : Type _} {l : List α} (h : l.length = 7) : ∃ x0 x1 x2 x3 x4 x5 x6, l = [x0, x1, x2, x3, x4, x5, x6] := by
  match l, h with
  | [x0, x1, x2, x3, x4, x5, x6], _ => exact ⟨x0, x1, x2, x3, x4, x5, x6, rfl⟩

set_option maxRecDepth 100000 in
set_option maxHeartbeats 4000000 in
set_option maxRecDepth 100000 in
theorem walk (a0_0 : Option Addr) (len0_0 cap0_0 : Nat) (z0_0 : List Int) (a0_1 : Int) (a0_2 : Int) (a1_0 : Int) (a1_1 : Int) (a1_2 : Int) (a1_3 : Int) (a1_4 : Int) (a1_5 : Int) (a1_6 : Option Addr) (len1_6 cap1_6 : Nat) (z1_6 : List Int) (a2_0 : Int) (a2_1 : Int) (a2_2 : Int) (a2_3 : Int) (a2_4 : Int) (a2_5 : Int) (a2_6 : Option Addr) (len2_6 cap2_6 : Nat) (z2_6 : List Int) (w : World) (w0_0 : IsRow .u64 w a0_0 len0_0 cap0_0 z0_0) (w0_1 : (Lit.int .i64 a0_1).wf = true) (w0_2 : (Lit.int .i64 a0_2).wf = true) (w1_0 : (Lit.int .i64 a1_0).wf = true) (w1_1 : (Lit.int .u64 a1_1).wf = true) (w1_2 : (Lit.int .i64 a1_2).wf = true) (w1_3 : (Lit.int .u64 a1_3).wf = true) (w1_4 : (Lit.int .i64 a1_4).wf = true) (w1_5 : (Lit.int .u64 a1_5).wf = true) (w1_6 : IsRow .i64 w a1_6 len1_6 cap1_6 z1_6) (w2_0 : (Lit.int .i64 a2_0).wf = true) (w2_1 : (Lit.int .u64 a2_1).wf = true) (w2_2 : (Lit.int .i64 a2_2).wf = true) (w2_3 : (Lit.int .u64 a2_3).wf = true) (w2_4 : (Lit.int .i64 a2_4).wf = true) (w2_5 : (Lit.int .u64 a2_5).wf = true) (w2_6 : IsRow .i64 w a2_6 len2_6 cap2_6 z2_6) (hg : w.cell? ⟨0, 0, none⟩ = some (.iface 76 (.agg #[.pointer (some ⟨1, 35, none⟩)]))) :
    Calls Tryd.prog 4 #[.agg #[.slice a0_0 len0_0 cap0_0, .int .i64 a0_1, .int .i64 a0_2], .agg #[.int .i64 a1_0, .int .u64 a1_1, .int .i64 a1_2, .int .u64 a1_3, .int .i64 a1_4, .int .u64 a1_5, .slice a1_6 len1_6 cap1_6], .agg #[.int .i64 a2_0, .int .u64 a2_1, .int .i64 a2_2, .int .u64 a2_3, .int .i64 a2_4, .int .u64 a2_5, .slice a2_6 len2_6 cap2_6]] w fun e w' => e = .returned (.bool true) ∧ Below w.heap.size w w' := by
  have hB := w0_0.row
  have hu := w0_0.u64
  have hs := wf_i64 w0_1
  have hb := wf_i64 w0_2
  have hZ := w1_6.row
  have hQ := w2_6.row
  have hv0 := wf_i64 w1_0
  have hv1 := wf_u64 w1_1
  have hv2 := wf_i64 w1_2
  have hv3 := wf_u64 w1_3
  have hv5 := wf_u64 w1_5
  have hy0 := wf_i64 w2_0
  have hy1 := wf_u64 w2_1
  have hy2 := wf_i64 w2_2
  have hy3 := wf_u64 w2_3
  have hy5 := wf_u64 w2_5
  clear w0_0 w0_1 w0_2 w1_0 w1_1 w1_2 w1_3 w1_4 w1_5 w1_6 w2_0 w2_1 w2_2 w2_3 w2_4 w2_5 w2_6
  generalize z0_0.take len0_0 = bs at *
  generalize z1_6.take len1_6 = zs at *
  generalize z2_6.take len2_6 = qs at *
  have hlt0 : 0 < w.heap.size := by
    rcases Nat.eq_zero_or_pos w.heap.size with h0 | h
    · simp [World.cell?, h0] at hg
    · exact h
  have HG := hide hg
  have HL := hide hlt0
  have HU := hide hu
  have HB := hide hB
  have HZ := hide hZ
  have HQ := hide hQ
  have HN := hide (Below.refl w.heap.size w)
  clear hg hlt0 hu hB hZ hQ
  replace HB := hide (HB.out.alloc (cfg a0_0 len0_0 cap0_0 a0_1 a0_2))
  replace HZ := hide (HZ.out.alloc (cfg a0_0 len0_0 cap0_0 a0_1 a0_2))
  replace HQ := hide (HQ.out.alloc (cfg a0_0 len0_0 cap0_0 a0_1 a0_2))
  replace HN := hide (HN.out.alloc HN.out.size (cfg a0_0 len0_0 cap0_0 a0_1 a0_2))
  have HC := hide (CAt.lit w w.heap.size rfl a0_0 len0_0 cap0_0 a0_1 a0_2)
  replace HB := hide (HB.out.alloc (vobj a1_0 a1_1 a1_2 a1_3 a1_4 a1_5 a1_6 len1_6 cap1_6))
  replace HZ := hide (HZ.out.alloc (vobj a1_0 a1_1 a1_2 a1_3 a1_4 a1_5 a1_6 len1_6 cap1_6))
  replace HQ := hide (HQ.out.alloc (vobj a1_0 a1_1 a1_2 a1_3 a1_4 a1_5 a1_6 len1_6 cap1_6))
  replace HC := hide (HC.out.alloc (vobj a1_0 a1_1 a1_2 a1_3 a1_4 a1_5 a1_6 len1_6 cap1_6))
  replace HN := hide (HN.out.alloc HN.out.size (vobj a1_0 a1_1 a1_2 a1_3 a1_4 a1_5 a1_6 len1_6 cap1_6))
  have HV := hide (VAt.lit (w.alloc (cfg a0_0 len0_0 cap0_0 a0_1 a0_2)) (w.heap.size + 1) (by simp) a1_0 a1_1 a1_2 a1_3 a1_4 a1_5 a1_6 len1_6 cap1_6)
  replace HB := hide (HB.out.alloc (vobj a2_0 a2_1 a2_2 a2_3 a2_4 a2_5 a2_6 len2_6 cap2_6))
  replace HZ := hide (HZ.out.alloc (vobj a2_0 a2_1 a2_2 a2_3 a2_4 a2_5 a2_6 len2_6 cap2_6))
  replace HQ := hide (HQ.out.alloc (vobj a2_0 a2_1 a2_2 a2_3 a2_4 a2_5 a2_6 len2_6 cap2_6))
  replace HC := hide (HC.out.alloc (vobj a2_0 a2_1 a2_2 a2_3 a2_4 a2_5 a2_6 len2_6 cap2_6))
  replace HV := hide (HV.out.alloc (vobj a2_0 a2_1 a2_2 a2_3 a2_4 a2_5 a2_6 len2_6 cap2_6))
  replace HN := hide (HN.out.alloc HN.out.size (vobj a2_0 a2_1 a2_2 a2_3 a2_4 a2_5 a2_6 len2_6 cap2_6))
  have HK := hide (VAt.lit ((w.alloc (cfg a0_0 len0_0 cap0_0 a0_1 a0_2)).alloc (vobj a1_0 a1_1 a1_2 a1_3 a1_4 a1_5 a1_6 len1_6 cap1_6)) (w.heap.size + 1 + 1) (by simp) a2_0 a2_1 a2_2 a2_3 a2_4 a2_5 a2_6 len2_6 cap2_6)
  have hSb := mkS_b a0_1
  have hlb := mkBs_len bs
  obtain ⟨S, hS⟩ : ∃ x, Hid (mkS a0_1 = x) := ⟨_, rfl⟩
  obtain ⟨B, hB⟩ : ∃ x, Hid (mkB a0_2 = x) := ⟨_, rfl⟩
  obtain ⟨n, hn⟩ : ∃ x, Hid ((mkBs bs).length = x) := ⟨_, rfl⟩
  rw [hS.out] at hSb
  rw [hn.out] at hlb
  have hTbx := epo_made a1_0 S hSb
  have hwbx := mvW_len n zs hlb.1
  obtain ⟨Tx, hTx⟩ : ∃ x, Hid (epo (a1_0 % 200) S = x) := ⟨_, rfl⟩
  obtain ⟨sx, hs0x⟩ : ∃ x, Hid (a1_0 % 200 = x) := ⟨_, rfl⟩
  obtain ⟨Ex, hEx⟩ : ∃ x, Hid (a1_2 % (Tx + 1) = x) := ⟨_, rfl⟩
  obtain ⟨h8x, hh8x⟩ : ∃ x, Hid (a1_1 % 8 = x) := ⟨_, rfl⟩
  obtain ⟨r8x, hr8x⟩ : ∃ x, Hid (a1_3 % 8 = x) := ⟨_, rfl⟩
  obtain ⟨t8x, ht8x⟩ : ∃ x, Hid (a1_5 % 8 = x) := ⟨_, rfl⟩
  obtain ⟨mx, hm0x⟩ : ∃ x, Hid ((mvW n zs).length = x) := ⟨_, rfl⟩
  rw [hTx.out] at hTbx
  rw [hm0x.out] at hwbx
  have hsbx : 0 ≤ sx ∧ sx < 200 := by rw [← hs0x.out]; omega
  have hTby := epo_made a2_0 S hSb
  have hwby := mvW_len n qs hlb.1
  obtain ⟨Ty, hTy⟩ : ∃ x, Hid (epo (a2_0 % 200) S = x) := ⟨_, rfl⟩
  obtain ⟨sy, hs0y⟩ : ∃ x, Hid (a2_0 % 200 = x) := ⟨_, rfl⟩
  obtain ⟨Ey, hEy⟩ : ∃ x, Hid (a2_2 % (Ty + 1) = x) := ⟨_, rfl⟩
  obtain ⟨h8y, hh8y⟩ : ∃ x, Hid (a2_1 % 8 = x) := ⟨_, rfl⟩
  obtain ⟨r8y, hr8y⟩ : ∃ x, Hid (a2_3 % 8 = x) := ⟨_, rfl⟩
  obtain ⟨t8y, ht8y⟩ : ∃ x, Hid (a2_5 % 8 = x) := ⟨_, rfl⟩
  obtain ⟨my, hm0y⟩ : ∃ x, Hid ((mvW n qs).length = x) := ⟨_, rfl⟩
  rw [hTy.out] at hTby
  rw [hm0y.out] at hwby
  have hsby : 0 ≤ sy ∧ sy < 200 := by rw [← hs0y.out]; omega
  go_enter Tryd.func4, Tryd.ntmps4
  go_wp2_with fail
  refine (awake_any _).mono ?_
  rintro e w1 ⟨rfl, hbel⟩
  replace HB := hide (HB.out.below hbel)
  replace HZ := hide (HZ.out.below hbel)
  replace HQ := hide (HQ.out.below hbel)
  replace HC := hide (HC.out.below hbel)
  replace HV := hide (HV.out.below hbel)
  replace HK := hide (HK.out.below hbel)
  replace HN := hide (HN.out.trans (hbel.mono HN.out.size))
  clear hbel
  obtain ⟨pL, p0, p1, p2⟩ := HC.out
  go_wp2_with fail
  refine (make_any bs _ _ _ _ _ _ HB.out HU.out hs hb).mono ?_
  rintro e w2 ⟨ao, d, rfl, hR, hbel⟩
  clear pL p0 p1 p2
  clear hR HC
  rw [hS.out, hB.out, hn.out]
  replace HZ := hide (HZ.out.below hbel)
  replace HQ := hide (HQ.out.below hbel)
  replace HV := hide (HV.out.below hbel)
  replace HK := hide (HK.out.below hbel)
  replace HN := hide (HN.out.trans (hbel.mono HN.out.size))
  clear hbel
  clear HB
  replace HZ := hide (HZ.out.alloc (cfg ao n d S B))
  replace HQ := hide (HQ.out.alloc (cfg ao n d S B))
  replace HV := hide (HV.out.alloc (cfg ao n d S B))
  replace HK := hide (HK.out.alloc (cfg ao n d S B))
  replace HN := hide (HN.out.alloc HN.out.size (cfg ao n d S B))
  have HC := hide (CAt.lit w2 w2.heap.size rfl ao n d S B)
  -- REGION 4
  obtain ⟨u0, hu0⟩ : ∃ x, Hid (w2.alloc (cfg ao n d S B) = x) := ⟨_, rfl⟩
  go_upto_region 4 with fail
  rw [hu0.out] at HZ HQ HV HK HC HN ⊢
  clear hu0
  go_cut [8, 9] from 15 to 67 (fun x y wx => ∃ bx by_ aox dx aoy dy, x = .pointer (some ⟨bx, 0, none⟩) ∧ y = .pointer (some ⟨by_, 0, none⟩) ∧ Hid (Below u0.heap.size u0 wx ∧ VAt wx bx sx h8x Ex r8x Tx t8x aox mx dx ∧ VAt wx by_ sy h8y Ey r8y Ty t8y aoy my dy ∧ RowIn .i64 wx aox mx dx (mvW n zs) ∧ RowIn .i64 wx aoy my dy (mvW n qs)))
  case first =>
    have hcs : Hid (∀ w', Below u0.heap.size u0 w' → w'.cell? ⟨w2.heap.size, 0, none⟩ = some (.slice ao n d) ∧ w'.cell? ⟨w2.heap.size, 1, none⟩ = some (.int .i64 S) ∧ w'.cell? ⟨w2.heap.size, 2, none⟩ = some (.int .i64 B) ∧ w'.cell? ⟨w.heap.size + 1, 0, none⟩ = some (.int .i64 a1_0) ∧ w'.cell? ⟨w.heap.size + 1, 1, none⟩ = some (.int .u64 a1_1) ∧ w'.cell? ⟨w.heap.size + 1, 2, none⟩ = some (.int .i64 a1_2) ∧ w'.cell? ⟨w.heap.size + 1, 3, none⟩ = some (.int .u64 a1_3) ∧ w'.cell? ⟨w.heap.size + 1, 4, none⟩ = some (.int .i64 a1_4) ∧ w'.cell? ⟨w.heap.size + 1, 5, none⟩ = some (.int .u64 a1_5) ∧ w'.cell? ⟨w.heap.size + 1, 6, none⟩ = some (.slice a1_6 len1_6 cap1_6) ∧ w'.cell? ⟨w.heap.size + 1 + 1, 0, none⟩ = some (.int .i64 a2_0) ∧ w'.cell? ⟨w.heap.size + 1 + 1, 1, none⟩ = some (.int .u64 a2_1) ∧ w'.cell? ⟨w.heap.size + 1 + 1, 2, none⟩ = some (.int .i64 a2_2) ∧ w'.cell? ⟨w.heap.size + 1 + 1, 3, none⟩ = some (.int .u64 a2_3) ∧ w'.cell? ⟨w.heap.size + 1 + 1, 4, none⟩ = some (.int .i64 a2_4) ∧ w'.cell? ⟨w.heap.size + 1 + 1, 5, none⟩ = some (.int .u64 a2_5) ∧ w'.cell? ⟨w.heap.size + 1 + 1, 6, none⟩ = some (.slice a2_6 len2_6 cap2_6)) := fun w' h =>
      have V := HV.out.below h
      have K := HK.out.below h
      have C := HC.out.below h
      ⟨C.c0, C.c1, C.c2, V.c0, V.c1, V.c2, V.c3, V.c4, V.c5, V.c6, K.c0, K.c1, K.c2, K.c3, K.c4, K.c5, K.c6⟩
    have hbc : Hid (Below u0.heap.size u0 u0.drew) := hide (Below.refl _ _).drew
    clear HV HK HC
    refine wp_region_noPanic ?_
    refine wp_region_held_drew (S := fun w' => w'.cell? ⟨w2.heap.size, 0, none⟩ = some (.slice ao n d) ∧ w'.cell? ⟨w2.heap.size, 1, none⟩ = some (.int .i64 S) ∧ w'.cell? ⟨w2.heap.size, 2, none⟩ = some (.int .i64 B) ∧ w'.cell? ⟨w.heap.size + 1, 0, none⟩ = some (.int .i64 a1_0) ∧ w'.cell? ⟨w.heap.size + 1, 1, none⟩ = some (.int .u64 a1_1) ∧ w'.cell? ⟨w.heap.size + 1, 2, none⟩ = some (.int .i64 a1_2) ∧ w'.cell? ⟨w.heap.size + 1, 3, none⟩ = some (.int .u64 a1_3) ∧ w'.cell? ⟨w.heap.size + 1, 4, none⟩ = some (.int .i64 a1_4) ∧ w'.cell? ⟨w.heap.size + 1, 5, none⟩ = some (.int .u64 a1_5) ∧ w'.cell? ⟨w.heap.size + 1, 6, none⟩ = some (.slice a1_6 len1_6 cap1_6) ∧ w'.cell? ⟨w.heap.size + 1 + 1, 0, none⟩ = some (.int .i64 a2_0) ∧ w'.cell? ⟨w.heap.size + 1 + 1, 1, none⟩ = some (.int .u64 a2_1) ∧ w'.cell? ⟨w.heap.size + 1 + 1, 2, none⟩ = some (.int .i64 a2_2) ∧ w'.cell? ⟨w.heap.size + 1 + 1, 3, none⟩ = some (.int .u64 a2_3) ∧ w'.cell? ⟨w.heap.size + 1 + 1, 4, none⟩ = some (.int .i64 a2_4) ∧ w'.cell? ⟨w.heap.size + 1 + 1, 5, none⟩ = some (.int .u64 a2_5) ∧ w'.cell? ⟨w.heap.size + 1 + 1, 6, none⟩ = some (.slice a2_6 len2_6 cap2_6)) (by kernel_rfl) (hcs.out _ hbc.out) (fun hHeld => ?_)
    refine take_set (i := 0) (v := .agg #[.slice ao n d, .int .i64 S, .int .i64 B]) rfl rfl (by kernel_rfl) (by kernel_rfl) (by kernel_rfl) (fun _ _ _ h => h) (Or.inl ⟨by kernel_rfl, fun w' hSw => ?_⟩) hHeld ?_
    · go_simp
    simp only [List.set_cons_succ, List.set_cons_zero]
    refine take_set (i := 1) (v := .agg (vcells a1_0 a1_1 a1_2 a1_3 a1_4 a1_5 a1_6 len1_6 cap1_6)) rfl rfl (by kernel_rfl) (by kernel_rfl) (by kernel_rfl) (fun _ _ _ h => h) (Or.inl ⟨by kernel_rfl, fun w' hSw => ?_⟩) hHeld ?_
    · go_simp
    simp only [List.set_cons_succ, List.set_cons_zero]
    refine take_set (i := 3) (v := .agg #[.slice ao n d, .int .i64 S, .int .i64 B]) rfl rfl (by kernel_rfl) (by kernel_rfl) (by kernel_rfl) (fun _ _ _ h => h) (Or.inl ⟨by kernel_rfl, fun w' hSw => ?_⟩) hHeld ?_
    · go_simp
    simp only [List.set_cons_succ, List.set_cons_zero]
    refine take_set (i := 4) (v := .agg (vcells a2_0 a2_1 a2_2 a2_3 a2_4 a2_5 a2_6 len2_6 cap2_6)) rfl rfl (by kernel_rfl) (by kernel_rfl) (by kernel_rfl) (fun _ _ _ h => h) (Or.inl ⟨by kernel_rfl, fun w' hSw => ?_⟩) hHeld ?_
    · go_simp
    simp only [List.set_cons_succ, List.set_cons_zero]
    generalize u0.drew = v at hbc hHeld ⊢
    refine wpAnyH_ready (rs := [2, 6, 7]) (by kernel_rfl) (by simp) ?_
    refine AllReadyH.cons (o := _) rfl (fun K hK => ?_) (AllReadyH.cons (o := _) rfl (fun K hK => ?_) (AllReadyH.cons (o := _) rfl (fun K hK => ?_) AllReadyH.nil))
    · skip
      go_simp
      refine (make5_new zs _ _ _ _ _ _ _ _ _ _ _ _ _ _ _ (HZ.out.below hbc.out) hlb hSb hv0 hv1 hv2 hv3 hv5).mono ?_
      rintro e v ⟨aox, dx, rfl, hR, hbel, hfr⟩
      rw [hTx.out, hs0x.out, hEx.out, hh8x.out, hr8x.out, ht8x.out, hm0x.out]
      rw [hm0x.out] at hR
      have HX := hide hR
      replace hbc := hide (hbc.out.trans (hbel.mono hbc.out.size))
      clear hbel hR hfr
      refine hK.out _ _ (hcs.out _ hbc.out) (fun hHeld => ?_)
      clear hK K
      refine wpAnyH_ready (rs := [5, 6, 7]) (by kernel_rfl) (by simp) ?_
      refine AllReadyH.cons (o := _) rfl (fun K hK => ?_) (AllReadyH.cons (o := _) rfl (fun K hK => ?_) (AllReadyH.cons (o := _) rfl (fun K hK => ?_) AllReadyH.nil))
      · skip
        go_simp
        refine (make5_new qs _ _ _ _ _ _ _ _ _ _ _ _ _ _ _ (HQ.out.below hbc.out) hlb hSb hy0 hy1 hy2 hy3 hy5).mono ?_
        rintro e v ⟨aoy, dy, rfl, hR, hbel, hfr⟩
        rw [hTy.out, hs0y.out, hEy.out, hh8y.out, hr8y.out, ht8y.out, hm0y.out]
        rw [hm0y.out] at hR
        have HY := hide hR
        replace HX := hide (HX.out.below hbel)
        replace hbc := hide (hbc.out.trans (hbel.mono hbc.out.size))
        clear hbel hR hfr
        refine hK.out _ _ (hcs.out _ hbc.out) (fun hHeld => ?_)
        clear hK K
        refine wpAnyH_ready (rs := [6, 7]) (by kernel_rfl) (by simp) ?_
        refine AllReadyH.cons (o := _) rfl (fun K hK => ?_) (AllReadyH.cons (o := _) rfl (fun K hK => ?_) AllReadyH.nil)
        · skip
          go_simp
          have hsz := hbc.out.size
          have nXX : Hid (∀ b off, aox = some ⟨b, off, none⟩ → b ≠ v.heap.size) := hide (fun b off e => by have := HX.out.far (by omega) b off e; omega)
          have nYX : Hid (∀ b off, aoy = some ⟨b, off, none⟩ → b ≠ v.heap.size) := hide (fun b off e => by have := HY.out.far (by omega) b off e; omega)
          have OX := hide (OAt.new v (vobj 0 0 0 0 0 0 none 0 0))
          replace HX := hide (HX.out.alloc (vobj 0 0 0 0 0 0 none 0 0))
          replace HY := hide (HY.out.alloc (vobj 0 0 0 0 0 0 none 0 0))
          replace hbc := hide (hbc.out.alloc hbc.out.size (vobj 0 0 0 0 0 0 none 0 0))
          generalize ebX : v.heap.size = bx at OX nXX nYX hsz ⊢
          clear ebX
          have lOX := hide hsz
          clear hsz
          generalize v.alloc (vobj 0 0 0 0 0 0 none 0 0) = v at hbc OX HX HY ⊢
          refine hK.out _ _ (hcs.out _ hbc.out) (fun hHeld => ?_)
          clear hK K
          refine wpAnyH_ready (rs := [7]) (by kernel_rfl) (by simp) ?_
          refine AllReadyH.cons (o := _) rfl (fun K hK => ?_) AllReadyH.nil
          · skip
            go_simp
            have hsz := hbc.out.size
            have nXY : Hid (∀ b off, aox = some ⟨b, off, none⟩ → b ≠ v.heap.size) := hide (fun b off e => by have := HX.out.far (by omega) b off e; omega)
            have nYY : Hid (∀ b off, aoy = some ⟨b, off, none⟩ → b ≠ v.heap.size) := hide (fun b off e => by have := HY.out.far (by omega) b off e; omega)
            have nb : Hid (bx ≠ v.heap.size) := hide (by have := OX.out.lt; omega)
            have OY := hide (OAt.new v (vobj 0 0 0 0 0 0 none 0 0))
            replace HX := hide (HX.out.alloc (vobj 0 0 0 0 0 0 none 0 0))
            replace HY := hide (HY.out.alloc (vobj 0 0 0 0 0 0 none 0 0))
            replace OX := hide (OX.out.alloc (vobj 0 0 0 0 0 0 none 0 0))
            replace hbc := hide (hbc.out.alloc hbc.out.size (vobj 0 0 0 0 0 0 none 0 0))
            generalize ebY : v.heap.size = by_ at OY nXY nYY nb hsz ⊢
            clear ebY
            have lOY := hide hsz
            clear hsz
            generalize v.alloc (vobj 0 0 0 0 0 0 none 0 0) = v at hbc OY HX HY OX ⊢
            refine hK.out _ _ (hcs.out _ hbc.out) (fun hHeld => ?_)
            clear hK K
            obtain ⟨v8, hr8_, OX8, ha8⟩ := store_vote rfl OX.out sx h8x Ex r8x Tx t8x aox mx dx
            obtain ⟨v9, hr9_, OY9, ha9⟩ := store_vote rfl (OY.out.apart ha8 (fun e => nb.out (by omega))) sy h8y Ey r8y Ty t8y aoy my dy
            have hb8 := hbc.out.trans (ha8.old u0.heap.size hbc.out.size lOX.out)
            have hb9 := hb8.trans (ha9.old u0.heap.size hb8.size lOY.out)
            have HB8 := hide hb8
            have HFIN : Hid (Below u0.heap.size u0 v9 ∧ VAt v9 bx sx h8x Ex r8x Tx t8x aox mx dx ∧ VAt v9 by_ sy h8y Ey r8y Ty t8y aoy my dy ∧ RowIn .i64 v9 aox mx dx (mvW n zs) ∧ RowIn .i64 v9 aoy my dy (mvW n qs)) :=
              hide ⟨hb9, (OX8.apart ha9 (fun e => nb.out (by omega))).vat, OY9.vat, (HX.out.aside ha8 nXX.out).aside ha9 nXY.out, (HY.out.aside ha8 nYX.out).aside ha9 nYY.out⟩
            have HB9 := hide hb9
            clear hb8 hb9 OX8 OY9 ha8 ha9
            refine wpAnyH_ready (rs := [8]) (by kernel_rfl) (by simp) ?_
            refine AllReadyH.cons (o := _) rfl (fun K hK => ?_) AllReadyH.nil
            refine step_store_at 30 (.tmp 8) (.tmp 21) rfl rfl _ _ rfl rfl v8 hr8_ ?_
            refine hK.out _ _ (hcs.out _ HB8.out) (fun hHeld => ?_)
            clear hK K
            refine wpAnyH_ready (rs := [9]) (by kernel_rfl) (by simp) ?_
            refine AllReadyH.cons (o := _) rfl (fun K hK => ?_) AllReadyH.nil
            refine step_store_at 30 (.tmp 9) (.tmp 24) rfl rfl _ _ rfl rfl v9 hr9_ ?_
            refine hK.out _ _ (hcs.out _ HB9.out) (fun hHeld => ?_)
            clear hK K
            refine wpAnyH_done (by kernel_rfl) ?_ _
            refine NoPanic.normal ?_
            go_wp2
            go_meet
            exact ⟨bx, by_, aox, dx, aoy, dy, rfl, rfl, HFIN⟩
        · skip
          go_simp
          have hsz := hbc.out.size
          have nXY : Hid (∀ b off, aox = some ⟨b, off, none⟩ → b ≠ v.heap.size) := hide (fun b off e => by have := HX.out.far (by omega) b off e; omega)
          have nYY : Hid (∀ b off, aoy = some ⟨b, off, none⟩ → b ≠ v.heap.size) := hide (fun b off e => by have := HY.out.far (by omega) b off e; omega)
          have OY := hide (OAt.new v (vobj 0 0 0 0 0 0 none 0 0))
          replace HX := hide (HX.out.alloc (vobj 0 0 0 0 0 0 none 0 0))
          replace HY := hide (HY.out.alloc (vobj 0 0 0 0 0 0 none 0 0))
          replace hbc := hide (hbc.out.alloc hbc.out.size (vobj 0 0 0 0 0 0 none 0 0))
          generalize ebY : v.heap.size = by_ at OY nXY nYY hsz ⊢
          clear ebY
          have lOY := hide hsz
          clear hsz
          generalize v.alloc (vobj 0 0 0 0 0 0 none 0 0) = v at hbc OY HX HY ⊢
          refine hK.out _ _ (hcs.out _ hbc.out) (fun hHeld => ?_)
          clear hK K
          refine wpAnyH_ready (rs := [6]) (by kernel_rfl) (by simp) ?_
          refine AllReadyH.cons (o := _) rfl (fun K hK => ?_) AllReadyH.nil
          · skip
            go_simp
            have hsz := hbc.out.size
            have nXX : Hid (∀ b off, aox = some ⟨b, off, none⟩ → b ≠ v.heap.size) := hide (fun b off e => by have := HX.out.far (by omega) b off e; omega)
            have nYX : Hid (∀ b off, aoy = some ⟨b, off, none⟩ → b ≠ v.heap.size) := hide (fun b off e => by have := HY.out.far (by omega) b off e; omega)
            have nb : Hid (by_ ≠ v.heap.size) := hide (by have := OY.out.lt; omega)
            have OX := hide (OAt.new v (vobj 0 0 0 0 0 0 none 0 0))
            replace HX := hide (HX.out.alloc (vobj 0 0 0 0 0 0 none 0 0))
            replace HY := hide (HY.out.alloc (vobj 0 0 0 0 0 0 none 0 0))
            replace OY := hide (OY.out.alloc (vobj 0 0 0 0 0 0 none 0 0))
            replace hbc := hide (hbc.out.alloc hbc.out.size (vobj 0 0 0 0 0 0 none 0 0))
            generalize ebX : v.heap.size = bx at OX nXX nYX nb hsz ⊢
            clear ebX
            have lOX := hide hsz
            clear hsz
            generalize v.alloc (vobj 0 0 0 0 0 0 none 0 0) = v at hbc OX HX HY OY ⊢
            refine hK.out _ _ (hcs.out _ hbc.out) (fun hHeld => ?_)
            clear hK K
            obtain ⟨v8, hr8_, OX8, ha8⟩ := store_vote rfl OX.out sx h8x Ex r8x Tx t8x aox mx dx
            obtain ⟨v9, hr9_, OY9, ha9⟩ := store_vote rfl (OY.out.apart ha8 (fun e => nb.out (by omega))) sy h8y Ey r8y Ty t8y aoy my dy
            have hb8 := hbc.out.trans (ha8.old u0.heap.size hbc.out.size lOX.out)
            have hb9 := hb8.trans (ha9.old u0.heap.size hb8.size lOY.out)
            have HB8 := hide hb8
            have HFIN : Hid (Below u0.heap.size u0 v9 ∧ VAt v9 bx sx h8x Ex r8x Tx t8x aox mx dx ∧ VAt v9 by_ sy h8y Ey r8y Ty t8y aoy my dy ∧ RowIn .i64 v9 aox mx dx (mvW n zs) ∧ RowIn .i64 v9 aoy my dy (mvW n qs)) :=
              hide ⟨hb9, (OX8.apart ha9 (fun e => nb.out (by omega))).vat, OY9.vat, (HX.out.aside ha8 nXX.out).aside ha9 nXY.out, (HY.out.aside ha8 nYX.out).aside ha9 nYY.out⟩
            have HB9 := hide hb9
            clear hb8 hb9 OX8 OY9 ha8 ha9
            refine wpAnyH_ready (rs := [8]) (by kernel_rfl) (by simp) ?_
            refine AllReadyH.cons (o := _) rfl (fun K hK => ?_) AllReadyH.nil
            refine step_store_at 30 (.tmp 8) (.tmp 21) rfl rfl _ _ rfl rfl v8 hr8_ ?_
            refine hK.out _ _ (hcs.out _ HB8.out) (fun hHeld => ?_)
            clear hK K
            refine wpAnyH_ready (rs := [9]) (by kernel_rfl) (by simp) ?_
            refine AllReadyH.cons (o := _) rfl (fun K hK => ?_) AllReadyH.nil
            refine step_store_at 30 (.tmp 9) (.tmp 24) rfl rfl _ _ rfl rfl v9 hr9_ ?_
            refine hK.out _ _ (hcs.out _ HB9.out) (fun hHeld => ?_)
            clear hK K
            refine wpAnyH_done (by kernel_rfl) ?_ _
            refine NoPanic.normal ?_
            go_wp2
            go_meet
            exact ⟨bx, by_, aox, dx, aoy, dy, rfl, rfl, HFIN⟩
      · skip
        go_simp
        have hsz := hbc.out.size
        have nXX : Hid (∀ b off, aox = some ⟨b, off, none⟩ → b ≠ v.heap.size) := hide (fun b off e => by have := HX.out.far (by omega) b off e; omega)
        have OX := hide (OAt.new v (vobj 0 0 0 0 0 0 none 0 0))
        replace HX := hide (HX.out.alloc (vobj 0 0 0 0 0 0 none 0 0))
        replace hbc := hide (hbc.out.alloc hbc.out.size (vobj 0 0 0 0 0 0 none 0 0))
        generalize ebX : v.heap.size = bx at OX nXX hsz ⊢
        clear ebX
        have lOX := hide hsz
        clear hsz
        generalize v.alloc (vobj 0 0 0 0 0 0 none 0 0) = v at hbc OX HX ⊢
        refine hK.out _ _ (hcs.out _ hbc.out) (fun hHeld => ?_)
        clear hK K
        refine wpAnyH_ready (rs := [5, 7]) (by kernel_rfl) (by simp) ?_
        refine AllReadyH.cons (o := _) rfl (fun K hK => ?_) (AllReadyH.cons (o := _) rfl (fun K hK => ?_) AllReadyH.nil)
        · skip
          go_simp
          refine (make5_new qs _ _ _ _ _ _ _ _ _ _ _ _ _ _ _ (HQ.out.below hbc.out) hlb hSb hy0 hy1 hy2 hy3 hy5).mono ?_
          rintro e v ⟨aoy, dy, rfl, hR, hbel, hfr⟩
          rw [hTy.out, hs0y.out, hEy.out, hh8y.out, hr8y.out, ht8y.out, hm0y.out]
          rw [hm0y.out] at hR
          have HY := hide hR
          have nYX : Hid (∀ b off, aoy = some ⟨b, off, none⟩ → b ≠ bx) := hide (fun b off e => by have := hfr b off e; have := OX.out.lt; omega)
          replace HX := hide (HX.out.below hbel)
          replace OX := hide (OX.out.below hbel)
          replace hbc := hide (hbc.out.trans (hbel.mono hbc.out.size))
          clear hbel hR hfr
          refine hK.out _ _ (hcs.out _ hbc.out) (fun hHeld => ?_)
          clear hK K
          refine wpAnyH_ready (rs := [7]) (by kernel_rfl) (by simp) ?_
          refine AllReadyH.cons (o := _) rfl (fun K hK => ?_) AllReadyH.nil
          · skip
            go_simp
            have hsz := hbc.out.size
            have nXY : Hid (∀ b off, aox = some ⟨b, off, none⟩ → b ≠ v.heap.size) := hide (fun b off e => by have := HX.out.far (by omega) b off e; omega)
            have nYY : Hid (∀ b off, aoy = some ⟨b, off, none⟩ → b ≠ v.heap.size) := hide (fun b off e => by have := HY.out.far (by omega) b off e; omega)
            have nb : Hid (bx ≠ v.heap.size) := hide (by have := OX.out.lt; omega)
            have OY := hide (OAt.new v (vobj 0 0 0 0 0 0 none 0 0))
            replace HX := hide (HX.out.alloc (vobj 0 0 0 0 0 0 none 0 0))
            replace HY := hide (HY.out.alloc (vobj 0 0 0 0 0 0 none 0 0))
            replace OX := hide (OX.out.alloc (vobj 0 0 0 0 0 0 none 0 0))
            replace hbc := hide (hbc.out.alloc hbc.out.size (vobj 0 0 0 0 0 0 none 0 0))
            generalize ebY : v.heap.size = by_ at OY nXY nYY nb hsz ⊢
            clear ebY
            have lOY := hide hsz
            clear hsz
            generalize v.alloc (vobj 0 0 0 0 0 0 none 0 0) = v at hbc OY HX HY OX ⊢
            refine hK.out _ _ (hcs.out _ hbc.out) (fun hHeld => ?_)
            clear hK K
            obtain ⟨v8, hr8_, OX8, ha8⟩ := store_vote rfl OX.out sx h8x Ex r8x Tx t8x aox mx dx
            obtain ⟨v9, hr9_, OY9, ha9⟩ := store_vote rfl (OY.out.apart ha8 (fun e => nb.out (by omega))) sy h8y Ey r8y Ty t8y aoy my dy
            have hb8 := hbc.out.trans (ha8.old u0.heap.size hbc.out.size lOX.out)
            have hb9 := hb8.trans (ha9.old u0.heap.size hb8.size lOY.out)
            have HB8 := hide hb8
            have HFIN : Hid (Below u0.heap.size u0 v9 ∧ VAt v9 bx sx h8x Ex r8x Tx t8x aox mx dx ∧ VAt v9 by_ sy h8y Ey r8y Ty t8y aoy my dy ∧ RowIn .i64 v9 aox mx dx (mvW n zs) ∧ RowIn .i64 v9 aoy my dy (mvW n qs)) :=
              hide ⟨hb9, (OX8.apart ha9 (fun e => nb.out (by omega))).vat, OY9.vat, (HX.out.aside ha8 nXX.out).aside ha9 nXY.out, (HY.out.aside ha8 nYX.out).aside ha9 nYY.out⟩
            have HB9 := hide hb9
            clear hb8 hb9 OX8 OY9 ha8 ha9
            refine wpAnyH_ready (rs := [8]) (by kernel_rfl) (by simp) ?_
            refine AllReadyH.cons (o := _) rfl (fun K hK => ?_) AllReadyH.nil
            refine step_store_at 30 (.tmp 8) (.tmp 21) rfl rfl _ _ rfl rfl v8 hr8_ ?_
            refine hK.out _ _ (hcs.out _ HB8.out) (fun hHeld => ?_)
            clear hK K
            refine wpAnyH_ready (rs := [9]) (by kernel_rfl) (by simp) ?_
            refine AllReadyH.cons (o := _) rfl (fun K hK => ?_) AllReadyH.nil
            refine step_store_at 30 (.tmp 9) (.tmp 24) rfl rfl _ _ rfl rfl v9 hr9_ ?_
            refine hK.out _ _ (hcs.out _ HB9.out) (fun hHeld => ?_)
            clear hK K
            refine wpAnyH_done (by kernel_rfl) ?_ _
            refine NoPanic.normal ?_
            go_wp2
            go_meet
            exact ⟨bx, by_, aox, dx, aoy, dy, rfl, rfl, HFIN⟩
        · skip
          go_simp
          have hsz := hbc.out.size
          have nXY : Hid (∀ b off, aox = some ⟨b, off, none⟩ → b ≠ v.heap.size) := hide (fun b off e => by have := HX.out.far (by omega) b off e; omega)
          have nb : Hid (bx ≠ v.heap.size) := hide (by have := OX.out.lt; omega)
          have OY := hide (OAt.new v (vobj 0 0 0 0 0 0 none 0 0))
          replace HX := hide (HX.out.alloc (vobj 0 0 0 0 0 0 none 0 0))
          replace OX := hide (OX.out.alloc (vobj 0 0 0 0 0 0 none 0 0))
          replace hbc := hide (hbc.out.alloc hbc.out.size (vobj 0 0 0 0 0 0 none 0 0))
          generalize ebY : v.heap.size = by_ at OY nXY nb hsz ⊢
          clear ebY
          have lOY := hide hsz
          clear hsz
          generalize v.alloc (vobj 0 0 0 0 0 0 none 0 0) = v at hbc OY HX OX ⊢
          refine hK.out _ _ (hcs.out _ hbc.out) (fun hHeld => ?_)
          clear hK K
          refine wpAnyH_ready (rs := [5]) (by kernel_rfl) (by simp) ?_
          refine AllReadyH.cons (o := _) rfl (fun K hK => ?_) AllReadyH.nil
          · skip
            go_simp
            refine (make5_new qs _ _ _ _ _ _ _ _ _ _ _ _ _ _ _ (HQ.out.below hbc.out) hlb hSb hy0 hy1 hy2 hy3 hy5).mono ?_
            rintro e v ⟨aoy, dy, rfl, hR, hbel, hfr⟩
            rw [hTy.out, hs0y.out, hEy.out, hh8y.out, hr8y.out, ht8y.out, hm0y.out]
            rw [hm0y.out] at hR
            have HY := hide hR
            have nYX : Hid (∀ b off, aoy = some ⟨b, off, none⟩ → b ≠ bx) := hide (fun b off e => by have := hfr b off e; have := OX.out.lt; omega)
            have nYY : Hid (∀ b off, aoy = some ⟨b, off, none⟩ → b ≠ by_) := hide (fun b off e => by have := hfr b off e; have := OY.out.lt; omega)
            replace HX := hide (HX.out.below hbel)
            replace OX := hide (OX.out.below hbel)
            replace OY := hide (OY.out.below hbel)
            replace hbc := hide (hbc.out.trans (hbel.mono hbc.out.size))
            clear hbel hR hfr
            refine hK.out _ _ (hcs.out _ hbc.out) (fun hHeld => ?_)
            clear hK K
            obtain ⟨v8, hr8_, OX8, ha8⟩ := store_vote rfl OX.out sx h8x Ex r8x Tx t8x aox mx dx
            obtain ⟨v9, hr9_, OY9, ha9⟩ := store_vote rfl (OY.out.apart ha8 (fun e => nb.out (by omega))) sy h8y Ey r8y Ty t8y aoy my dy
            have hb8 := hbc.out.trans (ha8.old u0.heap.size hbc.out.size lOX.out)
            have hb9 := hb8.trans (ha9.old u0.heap.size hb8.size lOY.out)
            have HB8 := hide hb8
            have HFIN : Hid (Below u0.heap.size u0 v9 ∧ VAt v9 bx sx h8x Ex r8x Tx t8x aox mx dx ∧ VAt v9 by_ sy h8y Ey r8y Ty t8y aoy my dy ∧ RowIn .i64 v9 aox mx dx (mvW n zs) ∧ RowIn .i64 v9 aoy my dy (mvW n qs)) :=
              hide ⟨hb9, (OX8.apart ha9 (fun e => nb.out (by omega))).vat, OY9.vat, (HX.out.aside ha8 nXX.out).aside ha9 nXY.out, (HY.out.aside ha8 nYX.out).aside ha9 nYY.out⟩
            have HB9 := hide hb9
            clear hb8 hb9 OX8 OY9 ha8 ha9
            refine wpAnyH_ready (rs := [8]) (by kernel_rfl) (by simp) ?_
            refine AllReadyH.cons (o := _) rfl (fun K hK => ?_) AllReadyH.nil
            refine step_store_at 30 (.tmp 8) (.tmp 21) rfl rfl _ _ rfl rfl v8 hr8_ ?_
            refine hK.out _ _ (hcs.out _ HB8.out) (fun hHeld => ?_)
            clear hK K
            refine wpAnyH_ready (rs := [9]) (by kernel_rfl) (by simp) ?_
            refine AllReadyH.cons (o := _) rfl (fun K hK => ?_) AllReadyH.nil
            refine step_store_at 30 (.tmp 9) (.tmp 24) rfl rfl _ _ rfl rfl v9 hr9_ ?_
            refine hK.out _ _ (hcs.out _ HB9.out) (fun hHeld => ?_)
            clear hK K
            refine wpAnyH_done (by kernel_rfl) ?_ _
            refine NoPanic.normal ?_
            go_wp2
            go_meet
            exact ⟨bx, by_, aox, dx, aoy, dy, rfl, rfl, HFIN⟩
      · skip
        go_simp
        have hsz := hbc.out.size
        have nXY : Hid (∀ b off, aox = some ⟨b, off, none⟩ → b ≠ v.heap.size) := hide (fun b off e => by have := HX.out.far (by omega) b off e; omega)
        have OY := hide (OAt.new v (vobj 0 0 0 0 0 0 none 0 0))
        replace HX := hide (HX.out.alloc (vobj 0 0 0 0 0 0 none 0 0))
        replace hbc := hide (hbc.out.alloc hbc.out.size (vobj 0 0 0 0 0 0 none 0 0))
        generalize ebY : v.heap.size = by_ at OY nXY hsz ⊢
        clear ebY
        have lOY := hide hsz
        clear hsz
        generalize v.alloc (vobj 0 0 0 0 0 0 none 0 0) = v at hbc OY HX ⊢
        refine hK.out _ _ (hcs.out _ hbc.out) (fun hHeld => ?_)
        clear hK K
        refine wpAnyH_ready (rs := [5, 6]) (by kernel_rfl) (by simp) ?_
        refine AllReadyH.cons (o := _) rfl (fun K hK => ?_) (AllReadyH.cons (o := _) rfl (fun K hK => ?_) AllReadyH.nil)
        · skip
          go_simp
          refine (make5_new qs _ _ _ _ _ _ _ _ _ _ _ _ _ _ _ (HQ.out.below hbc.out) hlb hSb hy0 hy1 hy2 hy3 hy5).mono ?_
          rintro e v ⟨aoy, dy, rfl, hR, hbel, hfr⟩
          rw [hTy.out, hs0y.out, hEy.out, hh8y.out, hr8y.out, ht8y.out, hm0y.out]
          rw [hm0y.out] at hR
          have HY := hide hR
          have nYY : Hid (∀ b off, aoy = some ⟨b, off, none⟩ → b ≠ by_) := hide (fun b off e => by have := hfr b off e; have := OY.out.lt; omega)
          replace HX := hide (HX.out.below hbel)
          replace OY := hide (OY.out.below hbel)
          replace hbc := hide (hbc.out.trans (hbel.mono hbc.out.size))
          clear hbel hR hfr
          refine hK.out _ _ (hcs.out _ hbc.out) (fun hHeld => ?_)
          clear hK K
          refine wpAnyH_ready (rs := [6]) (by kernel_rfl) (by simp) ?_
          refine AllReadyH.cons (o := _) rfl (fun K hK => ?_) AllReadyH.nil
          · skip
            go_simp
            have hsz := hbc.out.size
            have nXX : Hid (∀ b off, aox = some ⟨b, off, none⟩ → b ≠ v.heap.size) := hide (fun b off e => by have := HX.out.far (by omega) b off e; omega)
            have nYX : Hid (∀ b off, aoy = some ⟨b, off, none⟩ → b ≠ v.heap.size) := hide (fun b off e => by have := HY.out.far (by omega) b off e; omega)
            have nb : Hid (by_ ≠ v.heap.size) := hide (by have := OY.out.lt; omega)
            have OX := hide (OAt.new v (vobj 0 0 0 0 0 0 none 0 0))
            replace HX := hide (HX.out.alloc (vobj 0 0 0 0 0 0 none 0 0))
            replace HY := hide (HY.out.alloc (vobj 0 0 0 0 0 0 none 0 0))
            replace OY := hide (OY.out.alloc (vobj 0 0 0 0 0 0 none 0 0))
            replace hbc := hide (hbc.out.alloc hbc.out.size (vobj 0 0 0 0 0 0 none 0 0))
            generalize ebX : v.heap.size = bx at OX nXX nYX nb hsz ⊢
            clear ebX
            have lOX := hide hsz
            clear hsz
            generalize v.alloc (vobj 0 0 0 0 0 0 none 0 0) = v at hbc OX HX HY OY ⊢
            refine hK.out _ _ (hcs.out _ hbc.out) (fun hHeld => ?_)
            clear hK K
            obtain ⟨v8, hr8_, OX8, ha8⟩ := store_vote rfl OX.out sx h8x Ex r8x Tx t8x aox mx dx
            obtain ⟨v9, hr9_, OY9, ha9⟩ := store_vote rfl (OY.out.apart ha8 (fun e => nb.out (by omega))) sy h8y Ey r8y Ty t8y aoy my dy
            have hb8 := hbc.out.trans (ha8.old u0.heap.size hbc.out.size lOX.out)
            have hb9 := hb8.trans (ha9.old u0.heap.size hb8.size lOY.out)
            have HB8 := hide hb8
            have HFIN : Hid (Below u0.heap.size u0 v9 ∧ VAt v9 bx sx h8x Ex r8x Tx t8x aox mx dx ∧ VAt v9 by_ sy h8y Ey r8y Ty t8y aoy my dy ∧ RowIn .i64 v9 aox mx dx (mvW n zs) ∧ RowIn .i64 v9 aoy my dy (mvW n qs)) :=
              hide ⟨hb9, (OX8.apart ha9 (fun e => nb.out (by omega))).vat, OY9.vat, (HX.out.aside ha8 nXX.out).aside ha9 nXY.out, (HY.out.aside ha8 nYX.out).aside ha9 nYY.out⟩
            have HB9 := hide hb9
            clear hb8 hb9 OX8 OY9 ha8 ha9
            refine wpAnyH_ready (rs := [8]) (by kernel_rfl) (by simp) ?_
            refine AllReadyH.cons (o := _) rfl (fun K hK => ?_) AllReadyH.nil
            refine step_store_at 30 (.tmp 8) (.tmp 21) rfl rfl _ _ rfl rfl v8 hr8_ ?_
            refine hK.out _ _ (hcs.out _ HB8.out) (fun hHeld => ?_)
            clear hK K
            refine wpAnyH_ready (rs := [9]) (by kernel_rfl) (by simp) ?_
            refine AllReadyH.cons (o := _) rfl (fun K hK => ?_) AllReadyH.nil
            refine step_store_at 30 (.tmp 9) (.tmp 24) rfl rfl _ _ rfl rfl v9 hr9_ ?_
            refine hK.out _ _ (hcs.out _ HB9.out) (fun hHeld => ?_)
            clear hK K
            refine wpAnyH_done (by kernel_rfl) ?_ _
            refine NoPanic.normal ?_
            go_wp2
            go_meet
            exact ⟨bx, by_, aox, dx, aoy, dy, rfl, rfl, HFIN⟩
        · skip
          go_simp
          have hsz := hbc.out.size
          have nXX : Hid (∀ b off, aox = some ⟨b, off, none⟩ → b ≠ v.heap.size) := hide (fun b off e => by have := HX.out.far (by omega) b off e; omega)
          have nb : Hid (by_ ≠ v.heap.size) := hide (by have := OY.out.lt; omega)
          have OX := hide (OAt.new v (vobj 0 0 0 0 0 0 none 0 0))
          replace HX := hide (HX.out.alloc (vobj 0 0 0 0 0 0 none 0 0))
          replace OY := hide (OY.out.alloc (vobj 0 0 0 0 0 0 none 0 0))
          replace hbc := hide (hbc.out.alloc hbc.out.size (vobj 0 0 0 0 0 0 none 0 0))
          generalize ebX : v.heap.size = bx at OX nXX nb hsz ⊢
          clear ebX
          have lOX := hide hsz
          clear hsz
          generalize v.alloc (vobj 0 0 0 0 0 0 none 0 0) = v at hbc OX HX OY ⊢
          refine hK.out _ _ (hcs.out _ hbc.out) (fun hHeld => ?_)
          clear hK K
          refine wpAnyH_ready (rs := [5]) (by kernel_rfl) (by simp) ?_
          refine AllReadyH.cons (o := _) rfl (fun K hK => ?_) AllReadyH.nil
          · skip
            go_simp
            refine (make5_new qs _ _ _ _ _ _ _ _ _ _ _ _ _ _ _ (HQ.out.below hbc.out) hlb hSb hy0 hy1 hy2 hy3 hy5).mono ?_
            rintro e v ⟨aoy, dy, rfl, hR, hbel, hfr⟩
            rw [hTy.out, hs0y.out, hEy.out, hh8y.out, hr8y.out, ht8y.out, hm0y.out]
            rw [hm0y.out] at hR
            have HY := hide hR
            have nYX : Hid (∀ b off, aoy = some ⟨b, off, none⟩ → b ≠ bx) := hide (fun b off e => by have := hfr b off e; have := OX.out.lt; omega)
            have nYY : Hid (∀ b off, aoy = some ⟨b, off, none⟩ → b ≠ by_) := hide (fun b off e => by have := hfr b off e; have := OY.out.lt; omega)
            replace HX := hide (HX.out.below hbel)
            replace OX := hide (OX.out.below hbel)
            replace OY := hide (OY.out.below hbel)
            replace hbc := hide (hbc.out.trans (hbel.mono hbc.out.size))
            clear hbel hR hfr
            refine hK.out _ _ (hcs.out _ hbc.out) (fun hHeld => ?_)
            clear hK K
            obtain ⟨v8, hr8_, OX8, ha8⟩ := store_vote rfl OX.out sx h8x Ex r8x Tx t8x aox mx dx
            obtain ⟨v9, hr9_, OY9, ha9⟩ := store_vote rfl (OY.out.apart ha8 (fun e => nb.out (by omega))) sy h8y Ey r8y Ty t8y aoy my dy
            have hb8 := hbc.out.trans (ha8.old u0.heap.size hbc.out.size lOX.out)
            have hb9 := hb8.trans (ha9.old u0.heap.size hb8.size lOY.out)
            have HB8 := hide hb8
            have HFIN : Hid (Below u0.heap.size u0 v9 ∧ VAt v9 bx sx h8x Ex r8x Tx t8x aox mx dx ∧ VAt v9 by_ sy h8y Ey r8y Ty t8y aoy my dy ∧ RowIn .i64 v9 aox mx dx (mvW n zs) ∧ RowIn .i64 v9 aoy my dy (mvW n qs)) :=
              hide ⟨hb9, (OX8.apart ha9 (fun e => nb.out (by omega))).vat, OY9.vat, (HX.out.aside ha8 nXX.out).aside ha9 nXY.out, (HY.out.aside ha8 nYX.out).aside ha9 nYY.out⟩
            have HB9 := hide hb9
            clear hb8 hb9 OX8 OY9 ha8 ha9
            refine wpAnyH_ready (rs := [8]) (by kernel_rfl) (by simp) ?_
            refine AllReadyH.cons (o := _) rfl (fun K hK => ?_) AllReadyH.nil
            refine step_store_at 30 (.tmp 8) (.tmp 21) rfl rfl _ _ rfl rfl v8 hr8_ ?_
            refine hK.out _ _ (hcs.out _ HB8.out) (fun hHeld => ?_)
            clear hK K
            refine wpAnyH_ready (rs := [9]) (by kernel_rfl) (by simp) ?_
            refine AllReadyH.cons (o := _) rfl (fun K hK => ?_) AllReadyH.nil
            refine step_store_at 30 (.tmp 9) (.tmp 24) rfl rfl _ _ rfl rfl v9 hr9_ ?_
            refine hK.out _ _ (hcs.out _ HB9.out) (fun hHeld => ?_)
            clear hK K
            refine wpAnyH_done (by kernel_rfl) ?_ _
            refine NoPanic.normal ?_
            go_wp2
            go_meet
            exact ⟨bx, by_, aox, dx, aoy, dy, rfl, rfl, HFIN⟩
    · skip
      go_simp
      have hsz := hbc.out.size
      have OX := hide (OAt.new v (vobj 0 0 0 0 0 0 none 0 0))
      replace hbc := hide (hbc.out.alloc hbc.out.size (vobj 0 0 0 0 0 0 none 0 0))
      generalize ebX : v.heap.size = bx at OX hsz ⊢
      clear ebX
      have lOX := hide hsz
      clear hsz
      generalize v.alloc (vobj 0 0 0 0 0 0 none 0 0) = v at hbc OX ⊢
      refine hK.out _ _ (hcs.out _ hbc.out) (fun hHeld => ?_)
      clear hK K
      refine wpAnyH_ready (rs := [2, 7]) (by kernel_rfl) (by simp) ?_
      refine AllReadyH.cons (o := _) rfl (fun K hK => ?_) (AllReadyH.cons (o := _) rfl (fun K hK => ?_) AllReadyH.nil)
      · skip
        go_simp
        refine (make5_new zs _ _ _ _ _ _ _ _ _ _ _ _ _ _ _ (HZ.out.below hbc.out) hlb hSb hv0 hv1 hv2 hv3 hv5).mono ?_
        rintro e v ⟨aox, dx, rfl, hR, hbel, hfr⟩
        rw [hTx.out, hs0x.out, hEx.out, hh8x.out, hr8x.out, ht8x.out, hm0x.out]
        rw [hm0x.out] at hR
        have HX := hide hR
        have nXX : Hid (∀ b off, aox = some ⟨b, off, none⟩ → b ≠ bx) := hide (fun b off e => by have := hfr b off e; have := OX.out.lt; omega)
        replace OX := hide (OX.out.below hbel)
        replace hbc := hide (hbc.out.trans (hbel.mono hbc.out.size))
        clear hbel hR hfr
        refine hK.out _ _ (hcs.out _ hbc.out) (fun hHeld => ?_)
        clear hK K
        refine wpAnyH_ready (rs := [5, 7]) (by kernel_rfl) (by simp) ?_
        refine AllReadyH.cons (o := _) rfl (fun K hK => ?_) (AllReadyH.cons (o := _) rfl (fun K hK => ?_) AllReadyH.nil)
        · skip
          go_simp
          refine (make5_new qs _ _ _ _ _ _ _ _ _ _ _ _ _ _ _ (HQ.out.below hbc.out) hlb hSb hy0 hy1 hy2 hy3 hy5).mono ?_
          rintro e v ⟨aoy, dy, rfl, hR, hbel, hfr⟩
          rw [hTy.out, hs0y.out, hEy.out, hh8y.out, hr8y.out, ht8y.out, hm0y.out]
          rw [hm0y.out] at hR
          have HY := hide hR
          have nYX : Hid (∀ b off, aoy = some ⟨b, off, none⟩ → b ≠ bx) := hide (fun b off e => by have := hfr b off e; have := OX.out.lt; omega)
          replace HX := hide (HX.out.below hbel)
          replace OX := hide (OX.out.below hbel)
          replace hbc := hide (hbc.out.trans (hbel.mono hbc.out.size))
          clear hbel hR hfr
          refine hK.out _ _ (hcs.out _ hbc.out) (fun hHeld => ?_)
          clear hK K
          refine wpAnyH_ready (rs := [7]) (by kernel_rfl) (by simp) ?_
          refine AllReadyH.cons (o := _) rfl (fun K hK => ?_) AllReadyH.nil
          · skip
            go_simp
            have hsz := hbc.out.size
            have nXY : Hid (∀ b off, aox = some ⟨b, off, none⟩ → b ≠ v.heap.size) := hide (fun b off e => by have := HX.out.far (by omega) b off e; omega)
            have nYY : Hid (∀ b off, aoy = some ⟨b, off, none⟩ → b ≠ v.heap.size) := hide (fun b off e => by have := HY.out.far (by omega) b off e; omega)
            have nb : Hid (bx ≠ v.heap.size) := hide (by have := OX.out.lt; omega)
            have OY := hide (OAt.new v (vobj 0 0 0 0 0 0 none 0 0))
            replace HX := hide (HX.out.alloc (vobj 0 0 0 0 0 0 none 0 0))
            replace HY := hide (HY.out.alloc (vobj 0 0 0 0 0 0 none 0 0))
            replace OX := hide (OX.out.alloc (vobj 0 0 0 0 0 0 none 0 0))
            replace hbc := hide (hbc.out.alloc hbc.out.size (vobj 0 0 0 0 0 0 none 0 0))
            generalize ebY : v.heap.size = by_ at OY nXY nYY nb hsz ⊢
            clear ebY
            have lOY := hide hsz
            clear hsz
            generalize v.alloc (vobj 0 0 0 0 0 0 none 0 0) = v at hbc OY HX HY OX ⊢
            refine hK.out _ _ (hcs.out _ hbc.out) (fun hHeld => ?_)
            clear hK K
            obtain ⟨v8, hr8_, OX8, ha8⟩ := store_vote rfl OX.out sx h8x Ex r8x Tx t8x aox mx dx
            obtain ⟨v9, hr9_, OY9, ha9⟩ := store_vote rfl (OY.out.apart ha8 (fun e => nb.out (by omega))) sy h8y Ey r8y Ty t8y aoy my dy
            have hb8 := hbc.out.trans (ha8.old u0.heap.size hbc.out.size lOX.out)
            have hb9 := hb8.trans (ha9.old u0.heap.size hb8.size lOY.out)
            have HB8 := hide hb8
            have HFIN : Hid (Below u0.heap.size u0 v9 ∧ VAt v9 bx sx h8x Ex r8x Tx t8x aox mx dx ∧ VAt v9 by_ sy h8y Ey r8y Ty t8y aoy my dy ∧ RowIn .i64 v9 aox mx dx (mvW n zs) ∧ RowIn .i64 v9 aoy my dy (mvW n qs)) :=
              hide ⟨hb9, (OX8.apart ha9 (fun e => nb.out (by omega))).vat, OY9.vat, (HX.out.aside ha8 nXX.out).aside ha9 nXY.out, (HY.out.aside ha8 nYX.out).aside ha9 nYY.out⟩
            have HB9 := hide hb9
            clear hb8 hb9 OX8 OY9 ha8 ha9
            refine wpAnyH_ready (rs := [8]) (by kernel_rfl) (by simp) ?_
            refine AllReadyH.cons (o := _) rfl (fun K hK => ?_) AllReadyH.nil
            refine step_store_at 30 (.tmp 8) (.tmp 21) rfl rfl _ _ rfl rfl v8 hr8_ ?_
            refine hK.out _ _ (hcs.out _ HB8.out) (fun hHeld => ?_)
            clear hK K
            refine wpAnyH_ready (rs := [9]) (by kernel_rfl) (by simp) ?_
            refine AllReadyH.cons (o := _) rfl (fun K hK => ?_) AllReadyH.nil
            refine step_store_at 30 (.tmp 9) (.tmp 24) rfl rfl _ _ rfl rfl v9 hr9_ ?_
            refine hK.out _ _ (hcs.out _ HB9.out) (fun hHeld => ?_)
            clear hK K
            refine wpAnyH_done (by kernel_rfl) ?_ _
            refine NoPanic.normal ?_
            go_wp2
            go_meet
            exact ⟨bx, by_, aox, dx, aoy, dy, rfl, rfl, HFIN⟩
        · skip
          go_simp
          have hsz := hbc.out.size
          have nXY : Hid (∀ b off, aox = some ⟨b, off, none⟩ → b ≠ v.heap.size) := hide (fun b off e => by have := HX.out.far (by omega) b off e; omega)
          have nb : Hid (bx ≠ v.heap.size) := hide (by have := OX.out.lt; omega)
          have OY := hide (OAt.new v (vobj 0 0 0 0 0 0 none 0 0))
          replace HX := hide (HX.out.alloc (vobj 0 0 0 0 0 0 none 0 0))
          replace OX := hide (OX.out.alloc (vobj 0 0 0 0 0 0 none 0 0))
          replace hbc := hide (hbc.out.alloc hbc.out.size (vobj 0 0 0 0 0 0 none 0 0))
          generalize ebY : v.heap.size = by_ at OY nXY nb hsz ⊢
          clear ebY
          have lOY := hide hsz
          clear hsz
          generalize v.alloc (vobj 0 0 0 0 0 0 none 0 0) = v at hbc OY HX OX ⊢
          refine hK.out _ _ (hcs.out _ hbc.out) (fun hHeld => ?_)
          clear hK K
          refine wpAnyH_ready (rs := [5]) (by kernel_rfl) (by simp) ?_
          refine AllReadyH.cons (o := _) rfl (fun K hK => ?_) AllReadyH.nil
          · skip
            go_simp
            refine (make5_new qs _ _ _ _ _ _ _ _ _ _ _ _ _ _ _ (HQ.out.below hbc.out) hlb hSb hy0 hy1 hy2 hy3 hy5).mono ?_
            rintro e v ⟨aoy, dy, rfl, hR, hbel, hfr⟩
            rw [hTy.out, hs0y.out, hEy.out, hh8y.out, hr8y.out, ht8y.out, hm0y.out]
            rw [hm0y.out] at hR
            have HY := hide hR
            have nYX : Hid (∀ b off, aoy = some ⟨b, off, none⟩ → b ≠ bx) := hide (fun b off e => by have := hfr b off e; have := OX.out.lt; omega)
            have nYY : Hid (∀ b off, aoy = some ⟨b, off, none⟩ → b ≠ by_) := hide (fun b off e => by have := hfr b off e; have := OY.out.lt; omega)
            replace HX := hide (HX.out.below hbel)
            replace OX := hide (OX.out.below hbel)
            replace OY := hide (OY.out.below hbel)
            replace hbc := hide (hbc.out.trans (hbel.mono hbc.out.size))
            clear hbel hR hfr
            refine hK.out _ _ (hcs.out _ hbc.out) (fun hHeld => ?_)
            clear hK K
            obtain ⟨v8, hr8_, OX8, ha8⟩ := store_vote rfl OX.out sx h8x Ex r8x Tx t8x aox mx dx
            obtain ⟨v9, hr9_, OY9, ha9⟩ := store_vote rfl (OY.out.apart ha8 (fun e => nb.out (by omega))) sy h8y Ey r8y Ty t8y aoy my dy
            have hb8 := hbc.out.trans (ha8.old u0.heap.size hbc.out.size lOX.out)
            have hb9 := hb8.trans (ha9.old u0.heap.size hb8.size lOY.out)
            have HB8 := hide hb8
            have HFIN : Hid (Below u0.heap.size u0 v9 ∧ VAt v9 bx sx h8x Ex r8x Tx t8x aox mx dx ∧ VAt v9 by_ sy h8y Ey r8y Ty t8y aoy my dy ∧ RowIn .i64 v9 aox mx dx (mvW n zs) ∧ RowIn .i64 v9 aoy my dy (mvW n qs)) :=
              hide ⟨hb9, (OX8.apart ha9 (fun e => nb.out (by omega))).vat, OY9.vat, (HX.out.aside ha8 nXX.out).aside ha9 nXY.out, (HY.out.aside ha8 nYX.out).aside ha9 nYY.out⟩
            have HB9 := hide hb9
            clear hb8 hb9 OX8 OY9 ha8 ha9
            refine wpAnyH_ready (rs := [8]) (by kernel_rfl) (by simp) ?_
            refine AllReadyH.cons (o := _) rfl (fun K hK => ?_) AllReadyH.nil
            refine step_store_at 30 (.tmp 8) (.tmp 21) rfl rfl _ _ rfl rfl v8 hr8_ ?_
            refine hK.out _ _ (hcs.out _ HB8.out) (fun hHeld => ?_)
            clear hK K
            refine wpAnyH_ready (rs := [9]) (by kernel_rfl) (by simp) ?_
            refine AllReadyH.cons (o := _) rfl (fun K hK => ?_) AllReadyH.nil
            refine step_store_at 30 (.tmp 9) (.tmp 24) rfl rfl _ _ rfl rfl v9 hr9_ ?_
            refine hK.out _ _ (hcs.out _ HB9.out) (fun hHeld => ?_)
            clear hK K
            refine wpAnyH_done (by kernel_rfl) ?_ _
            refine NoPanic.normal ?_
            go_wp2
            go_meet
            exact ⟨bx, by_, aox, dx, aoy, dy, rfl, rfl, HFIN⟩
      · skip
        go_simp
        have hsz := hbc.out.size
        have nb : Hid (bx ≠ v.heap.size) := hide (by have := OX.out.lt; omega)
        have OY := hide (OAt.new v (vobj 0 0 0 0 0 0 none 0 0))
        replace OX := hide (OX.out.alloc (vobj 0 0 0 0 0 0 none 0 0))
        replace hbc := hide (hbc.out.alloc hbc.out.size (vobj 0 0 0 0 0 0 none 0 0))
        generalize ebY : v.heap.size = by_ at OY nb hsz ⊢
        clear ebY
        have lOY := hide hsz
        clear hsz
        generalize v.alloc (vobj 0 0 0 0 0 0 none 0 0) = v at hbc OY OX ⊢
        refine hK.out _ _ (hcs.out _ hbc.out) (fun hHeld => ?_)
        clear hK K
        refine wpAnyH_ready (rs := [2]) (by kernel_rfl) (by simp) ?_
        refine AllReadyH.cons (o := _) rfl (fun K hK => ?_) AllReadyH.nil
        · skip
          go_simp
          refine (make5_new zs _ _ _ _ _ _ _ _ _ _ _ _ _ _ _ (HZ.out.below hbc.out) hlb hSb hv0 hv1 hv2 hv3 hv5).mono ?_
          rintro e v ⟨aox, dx, rfl, hR, hbel, hfr⟩
          rw [hTx.out, hs0x.out, hEx.out, hh8x.out, hr8x.out, ht8x.out, hm0x.out]
          rw [hm0x.out] at hR
          have HX := hide hR
          have nXX : Hid (∀ b off, aox = some ⟨b, off, none⟩ → b ≠ bx) := hide (fun b off e => by have := hfr b off e; have := OX.out.lt; omega)
          have nXY : Hid (∀ b off, aox = some ⟨b, off, none⟩ → b ≠ by_) := hide (fun b off e => by have := hfr b off e; have := OY.out.lt; omega)
          replace OX := hide (OX.out.below hbel)
          replace OY := hide (OY.out.below hbel)
          replace hbc := hide (hbc.out.trans (hbel.mono hbc.out.size))
          clear hbel hR hfr
          refine hK.out _ _ (hcs.out _ hbc.out) (fun hHeld => ?_)
          clear hK K
          refine wpAnyH_ready (rs := [5]) (by kernel_rfl) (by simp) ?_
          refine AllReadyH.cons (o := _) rfl (fun K hK => ?_) AllReadyH.nil
          · skip
            go_simp
            refine (make5_new qs _ _ _ _ _ _ _ _ _ _ _ _ _ _ _ (HQ.out.below hbc.out) hlb hSb hy0 hy1 hy2 hy3 hy5).mono ?_
            rintro e v ⟨aoy, dy, rfl, hR, hbel, hfr⟩
            rw [hTy.out, hs0y.out, hEy.out, hh8y.out, hr8y.out, ht8y.out, hm0y.out]
            rw [hm0y.out] at hR
            have HY := hide hR
            have nYX : Hid (∀ b off, aoy = some ⟨b, off, none⟩ → b ≠ bx) := hide (fun b off e => by have := hfr b off e; have := OX.out.lt; omega)
            have nYY : Hid (∀ b off, aoy = some ⟨b, off, none⟩ → b ≠ by_) := hide (fun b off e => by have := hfr b off e; have := OY.out.lt; omega)
            replace HX := hide (HX.out.below hbel)
            replace OX := hide (OX.out.below hbel)
            replace OY := hide (OY.out.below hbel)
            replace hbc := hide (hbc.out.trans (hbel.mono hbc.out.size))
            clear hbel hR hfr
            refine hK.out _ _ (hcs.out _ hbc.out) (fun hHeld => ?_)
            clear hK K
            obtain ⟨v8, hr8_, OX8, ha8⟩ := store_vote rfl OX.out sx h8x Ex r8x Tx t8x aox mx dx
            obtain ⟨v9, hr9_, OY9, ha9⟩ := store_vote rfl (OY.out.apart ha8 (fun e => nb.out (by omega))) sy h8y Ey r8y Ty t8y aoy my dy
            have hb8 := hbc.out.trans (ha8.old u0.heap.size hbc.out.size lOX.out)
            have hb9 := hb8.trans (ha9.old u0.heap.size hb8.size lOY.out)
            have HB8 := hide hb8
            have HFIN : Hid (Below u0.heap.size u0 v9 ∧ VAt v9 bx sx h8x Ex r8x Tx t8x aox mx dx ∧ VAt v9 by_ sy h8y Ey r8y Ty t8y aoy my dy ∧ RowIn .i64 v9 aox mx dx (mvW n zs) ∧ RowIn .i64 v9 aoy my dy (mvW n qs)) :=
              hide ⟨hb9, (OX8.apart ha9 (fun e => nb.out (by omega))).vat, OY9.vat, (HX.out.aside ha8 nXX.out).aside ha9 nXY.out, (HY.out.aside ha8 nYX.out).aside ha9 nYY.out⟩
            have HB9 := hide hb9
            clear hb8 hb9 OX8 OY9 ha8 ha9
            refine wpAnyH_ready (rs := [8]) (by kernel_rfl) (by simp) ?_
            refine AllReadyH.cons (o := _) rfl (fun K hK => ?_) AllReadyH.nil
            refine step_store_at 30 (.tmp 8) (.tmp 21) rfl rfl _ _ rfl rfl v8 hr8_ ?_
            refine hK.out _ _ (hcs.out _ HB8.out) (fun hHeld => ?_)
            clear hK K
            refine wpAnyH_ready (rs := [9]) (by kernel_rfl) (by simp) ?_
            refine AllReadyH.cons (o := _) rfl (fun K hK => ?_) AllReadyH.nil
            refine step_store_at 30 (.tmp 9) (.tmp 24) rfl rfl _ _ rfl rfl v9 hr9_ ?_
            refine hK.out _ _ (hcs.out _ HB9.out) (fun hHeld => ?_)
            clear hK K
            refine wpAnyH_done (by kernel_rfl) ?_ _
            refine NoPanic.normal ?_
            go_wp2
            go_meet
            exact ⟨bx, by_, aox, dx, aoy, dy, rfl, rfl, HFIN⟩
    · skip
      go_simp
      have hsz := hbc.out.size
      have OY := hide (OAt.new v (vobj 0 0 0 0 0 0 none 0 0))
      replace hbc := hide (hbc.out.alloc hbc.out.size (vobj 0 0 0 0 0 0 none 0 0))
      generalize ebY : v.heap.size = by_ at OY hsz ⊢
      clear ebY
      have lOY := hide hsz
      clear hsz
      generalize v.alloc (vobj 0 0 0 0 0 0 none 0 0) = v at hbc OY ⊢
      refine hK.out _ _ (hcs.out _ hbc.out) (fun hHeld => ?_)
      clear hK K
      refine wpAnyH_ready (rs := [2, 6]) (by kernel_rfl) (by simp) ?_
      refine AllReadyH.cons (o := _) rfl (fun K hK => ?_) (AllReadyH.cons (o := _) rfl (fun K hK => ?_) AllReadyH.nil)
      · skip
        go_simp
        refine (make5_new zs _ _ _ _ _ _ _ _ _ _ _ _ _ _ _ (HZ.out.below hbc.out) hlb hSb hv0 hv1 hv2 hv3 hv5).mono ?_
        rintro e v ⟨aox, dx, rfl, hR, hbel, hfr⟩
        rw [hTx.out, hs0x.out, hEx.out, hh8x.out, hr8x.out, ht8x.out, hm0x.out]
        rw [hm0x.out] at hR
        have HX := hide hR
        have nXY : Hid (∀ b off, aox = some ⟨b, off, none⟩ → b ≠ by_) := hide (fun b off e => by have := hfr b off e; have := OY.out.lt; omega)
        replace OY := hide (OY.out.below hbel)
        replace hbc := hide (hbc.out.trans (hbel.mono hbc.out.size))
        clear hbel hR hfr
        refine hK.out _ _ (hcs.out _ hbc.out) (fun hHeld => ?_)
        clear hK K
        refine wpAnyH_ready (rs := [5, 6]) (by kernel_rfl) (by simp) ?_
        refine AllReadyH.cons (o := _) rfl (fun K hK => ?_) (AllReadyH.cons (o := _) rfl (fun K hK => ?_) AllReadyH.nil)
        · skip
          go_simp
          refine (make5_new qs _ _ _ _ _ _ _ _ _ _ _ _ _ _ _ (HQ.out.below hbc.out) hlb hSb hy0 hy1 hy2 hy3 hy5).mono ?_
          rintro e v ⟨aoy, dy, rfl, hR, hbel, hfr⟩
          rw [hTy.out, hs0y.out, hEy.out, hh8y.out, hr8y.out, ht8y.out, hm0y.out]
          rw [hm0y.out] at hR
          have HY := hide hR
          have nYY : Hid (∀ b off, aoy = some ⟨b, off, none⟩ → b ≠ by_) := hide (fun b off e => by have := hfr b off e; have := OY.out.lt; omega)
          replace HX := hide (HX.out.below hbel)
          replace OY := hide (OY.out.below hbel)
          replace hbc := hide (hbc.out.trans (hbel.mono hbc.out.size))
          clear hbel hR hfr
          refine hK.out _ _ (hcs.out _ hbc.out) (fun hHeld => ?_)
          clear hK K
          refine wpAnyH_ready (rs := [6]) (by kernel_rfl) (by simp) ?_
          refine AllReadyH.cons (o := _) rfl (fun K hK => ?_) AllReadyH.nil
          · skip
            go_simp
            have hsz := hbc.out.size
            have nXX : Hid (∀ b off, aox = some ⟨b, off, none⟩ → b ≠ v.heap.size) := hide (fun b off e => by have := HX.out.far (by omega) b off e; omega)
            have nYX : Hid (∀ b off, aoy = some ⟨b, off, none⟩ → b ≠ v.heap.size) := hide (fun b off e => by have := HY.out.far (by omega) b off e; omega)
            have nb : Hid (by_ ≠ v.heap.size) := hide (by have := OY.out.lt; omega)
            have OX := hide (OAt.new v (vobj 0 0 0 0 0 0 none 0 0))
            replace HX := hide (HX.out.alloc (vobj 0 0 0 0 0 0 none 0 0))
            replace HY := hide (HY.out.alloc (vobj 0 0 0 0 0 0 none 0 0))
            replace OY := hide (OY.out.alloc (vobj 0 0 0 0 0 0 none 0 0))
            replace hbc := hide (hbc.out.alloc hbc.out.size (vobj 0 0 0 0 0 0 none 0 0))
            generalize ebX : v.heap.size = bx at OX nXX nYX nb hsz ⊢
            clear ebX
            have lOX := hide hsz
            clear hsz
            generalize v.alloc (vobj 0 0 0 0 0 0 none 0 0) = v at hbc OX HX HY OY ⊢
            refine hK.out _ _ (hcs.out _ hbc.out) (fun hHeld => ?_)
            clear hK K
            obtain ⟨v8, hr8_, OX8, ha8⟩ := store_vote rfl OX.out sx h8x Ex r8x Tx t8x aox mx dx
            obtain ⟨v9, hr9_, OY9, ha9⟩ := store_vote rfl (OY.out.apart ha8 (fun e => nb.out (by omega))) sy h8y Ey r8y Ty t8y aoy my dy
            have hb8 := hbc.out.trans (ha8.old u0.heap.size hbc.out.size lOX.out)
            have hb9 := hb8.trans (ha9.old u0.heap.size hb8.size lOY.out)
            have HB8 := hide hb8
            have HFIN : Hid (Below u0.heap.size u0 v9 ∧ VAt v9 bx sx h8x Ex r8x Tx t8x aox mx dx ∧ VAt v9 by_ sy h8y Ey r8y Ty t8y aoy my dy ∧ RowIn .i64 v9 aox mx dx (mvW n zs) ∧ RowIn .i64 v9 aoy my dy (mvW n qs)) :=
              hide ⟨hb9, (OX8.apart ha9 (fun e => nb.out (by omega))).vat, OY9.vat, (HX.out.aside ha8 nXX.out).aside ha9 nXY.out, (HY.out.aside ha8 nYX.out).aside ha9 nYY.out⟩
            have HB9 := hide hb9
            clear hb8 hb9 OX8 OY9 ha8 ha9
            refine wpAnyH_ready (rs := [8]) (by kernel_rfl) (by simp) ?_
            refine AllReadyH.cons (o := _) rfl (fun K hK => ?_) AllReadyH.nil
            refine step_store_at 30 (.tmp 8) (.tmp 21) rfl rfl _ _ rfl rfl v8 hr8_ ?_
            refine hK.out _ _ (hcs.out _ HB8.out) (fun hHeld => ?_)
            clear hK K
            refine wpAnyH_ready (rs := [9]) (by kernel_rfl) (by simp) ?_
            refine AllReadyH.cons (o := _) rfl (fun K hK => ?_) AllReadyH.nil
            refine step_store_at 30 (.tmp 9) (.tmp 24) rfl rfl _ _ rfl rfl v9 hr9_ ?_
            refine hK.out _ _ (hcs.out _ HB9.out) (fun hHeld => ?_)
            clear hK K
            refine wpAnyH_done (by kernel_rfl) ?_ _
            refine NoPanic.normal ?_
            go_wp2
            go_meet
            exact ⟨bx, by_, aox, dx, aoy, dy, rfl, rfl, HFIN⟩
        · skip
          go_simp
          have hsz := hbc.out.size
          have nXX : Hid (∀ b off, aox = some ⟨b, off, none⟩ → b ≠ v.heap.size) := hide (fun b off e => by have := HX.out.far (by omega) b off e; omega)
          have nb : Hid (by_ ≠ v.heap.size) := hide (by have := OY.out.lt; omega)
          have OX := hide (OAt.new v (vobj 0 0 0 0 0 0 none 0 0))
          replace HX := hide (HX.out.alloc (vobj 0 0 0 0 0 0 none 0 0))
          replace OY := hide (OY.out.alloc (vobj 0 0 0 0 0 0 none 0 0))
          replace hbc := hide (hbc.out.alloc hbc.out.size (vobj 0 0 0 0 0 0 none 0 0))
          generalize ebX : v.heap.size = bx at OX nXX nb hsz ⊢
          clear ebX
          have lOX := hide hsz
          clear hsz
          generalize v.alloc (vobj 0 0 0 0 0 0 none 0 0) = v at hbc OX HX OY ⊢
          refine hK.out _ _ (hcs.out _ hbc.out) (fun hHeld => ?_)
          clear hK K
          refine wpAnyH_ready (rs := [5]) (by kernel_rfl) (by simp) ?_
          refine AllReadyH.cons (o := _) rfl (fun K hK => ?_) AllReadyH.nil
          · skip
            go_simp
            refine (make5_new qs _ _ _ _ _ _ _ _ _ _ _ _ _ _ _ (HQ.out.below hbc.out) hlb hSb hy0 hy1 hy2 hy3 hy5).mono ?_
            rintro e v ⟨aoy, dy, rfl, hR, hbel, hfr⟩
            rw [hTy.out, hs0y.out, hEy.out, hh8y.out, hr8y.out, ht8y.out, hm0y.out]
            rw [hm0y.out] at hR
            have HY := hide hR
            have nYX : Hid (∀ b off, aoy = some ⟨b, off, none⟩ → b ≠ bx) := hide (fun b off e => by have := hfr b off e; have := OX.out.lt; omega)
            have nYY : Hid (∀ b off, aoy = some ⟨b, off, none⟩ → b ≠ by_) := hide (fun b off e => by have := hfr b off e; have := OY.out.lt; omega)
            replace HX := hide (HX.out.below hbel)
            replace OX := hide (OX.out.below hbel)
            replace OY := hide (OY.out.below hbel)
            replace hbc := hide (hbc.out.trans (hbel.mono hbc.out.size))
            clear hbel hR hfr
            refine hK.out _ _ (hcs.out _ hbc.out) (fun hHeld => ?_)
            clear hK K
            obtain ⟨v8, hr8_, OX8, ha8⟩ := store_vote rfl OX.out sx h8x Ex r8x Tx t8x aox mx dx
            obtain ⟨v9, hr9_, OY9, ha9⟩ := store_vote rfl (OY.out.apart ha8 (fun e => nb.out (by omega))) sy h8y Ey r8y Ty t8y aoy my dy
            have hb8 := hbc.out.trans (ha8.old u0.heap.size hbc.out.size lOX.out)
            have hb9 := hb8.trans (ha9.old u0.heap.size hb8.size lOY.out)
            have HB8 := hide hb8
            have HFIN : Hid (Below u0.heap.size u0 v9 ∧ VAt v9 bx sx h8x Ex r8x Tx t8x aox mx dx ∧ VAt v9 by_ sy h8y Ey r8y Ty t8y aoy my dy ∧ RowIn .i64 v9 aox mx dx (mvW n zs) ∧ RowIn .i64 v9 aoy my dy (mvW n qs)) :=
              hide ⟨hb9, (OX8.apart ha9 (fun e => nb.out (by omega))).vat, OY9.vat, (HX.out.aside ha8 nXX.out).aside ha9 nXY.out, (HY.out.aside ha8 nYX.out).aside ha9 nYY.out⟩
            have HB9 := hide hb9
            clear hb8 hb9 OX8 OY9 ha8 ha9
            refine wpAnyH_ready (rs := [8]) (by kernel_rfl) (by simp) ?_
            refine AllReadyH.cons (o := _) rfl (fun K hK => ?_) AllReadyH.nil
            refine step_store_at 30 (.tmp 8) (.tmp 21) rfl rfl _ _ rfl rfl v8 hr8_ ?_
            refine hK.out _ _ (hcs.out _ HB8.out) (fun hHeld => ?_)
            clear hK K
            refine wpAnyH_ready (rs := [9]) (by kernel_rfl) (by simp) ?_
            refine AllReadyH.cons (o := _) rfl (fun K hK => ?_) AllReadyH.nil
            refine step_store_at 30 (.tmp 9) (.tmp 24) rfl rfl _ _ rfl rfl v9 hr9_ ?_
            refine hK.out _ _ (hcs.out _ HB9.out) (fun hHeld => ?_)
            clear hK K
            refine wpAnyH_done (by kernel_rfl) ?_ _
            refine NoPanic.normal ?_
            go_wp2
            go_meet
            exact ⟨bx, by_, aox, dx, aoy, dy, rfl, rfl, HFIN⟩
      · skip
        go_simp
        have hsz := hbc.out.size
        have nb : Hid (by_ ≠ v.heap.size) := hide (by have := OY.out.lt; omega)
        have OX := hide (OAt.new v (vobj 0 0 0 0 0 0 none 0 0))
        replace OY := hide (OY.out.alloc (vobj 0 0 0 0 0 0 none 0 0))
        replace hbc := hide (hbc.out.alloc hbc.out.size (vobj 0 0 0 0 0 0 none 0 0))
        generalize ebX : v.heap.size = bx at OX nb hsz ⊢
        clear ebX
        have lOX := hide hsz
        clear hsz
        generalize v.alloc (vobj 0 0 0 0 0 0 none 0 0) = v at hbc OX OY ⊢
        refine hK.out _ _ (hcs.out _ hbc.out) (fun hHeld => ?_)
        clear hK K
        refine wpAnyH_ready (rs := [2]) (by kernel_rfl) (by simp) ?_
        refine AllReadyH.cons (o := _) rfl (fun K hK => ?_) AllReadyH.nil
        · skip
          go_simp
          refine (make5_new zs _ _ _ _ _ _ _ _ _ _ _ _ _ _ _ (HZ.out.below hbc.out) hlb hSb hv0 hv1 hv2 hv3 hv5).mono ?_
          rintro e v ⟨aox, dx, rfl, hR, hbel, hfr⟩
          rw [hTx.out, hs0x.out, hEx.out, hh8x.out, hr8x.out, ht8x.out, hm0x.out]
          rw [hm0x.out] at hR
          have HX := hide hR
          have nXX : Hid (∀ b off, aox = some ⟨b, off, none⟩ → b ≠ bx) := hide (fun b off e => by have := hfr b off e; have := OX.out.lt; omega)
          have nXY : Hid (∀ b off, aox = some ⟨b, off, none⟩ → b ≠ by_) := hide (fun b off e => by have := hfr b off e; have := OY.out.lt; omega)
          replace OX := hide (OX.out.below hbel)
          replace OY := hide (OY.out.below hbel)
          replace hbc := hide (hbc.out.trans (hbel.mono hbc.out.size))
          clear hbel hR hfr
          refine hK.out _ _ (hcs.out _ hbc.out) (fun hHeld => ?_)
          clear hK K
          refine wpAnyH_ready (rs := [5]) (by kernel_rfl) (by simp) ?_
          refine AllReadyH.cons (o := _) rfl (fun K hK => ?_) AllReadyH.nil
          · skip
            go_simp
            refine (make5_new qs _ _ _ _ _ _ _ _ _ _ _ _ _ _ _ (HQ.out.below hbc.out) hlb hSb hy0 hy1 hy2 hy3 hy5).mono ?_
            rintro e v ⟨aoy, dy, rfl, hR, hbel, hfr⟩
            rw [hTy.out, hs0y.out, hEy.out, hh8y.out, hr8y.out, ht8y.out, hm0y.out]
            rw [hm0y.out] at hR
            have HY := hide hR
            have nYX : Hid (∀ b off, aoy = some ⟨b, off, none⟩ → b ≠ bx) := hide (fun b off e => by have := hfr b off e; have := OX.out.lt; omega)
            have nYY : Hid (∀ b off, aoy = some ⟨b, off, none⟩ → b ≠ by_) := hide (fun b off e => by have := hfr b off e; have := OY.out.lt; omega)
            replace HX := hide (HX.out.below hbel)
            replace OX := hide (OX.out.below hbel)
            replace OY := hide (OY.out.below hbel)
            replace hbc := hide (hbc.out.trans (hbel.mono hbc.out.size))
            clear hbel hR hfr
            refine hK.out _ _ (hcs.out _ hbc.out) (fun hHeld => ?_)
            clear hK K
            obtain ⟨v8, hr8_, OX8, ha8⟩ := store_vote rfl OX.out sx h8x Ex r8x Tx t8x aox mx dx
            obtain ⟨v9, hr9_, OY9, ha9⟩ := store_vote rfl (OY.out.apart ha8 (fun e => nb.out (by omega))) sy h8y Ey r8y Ty t8y aoy my dy
            have hb8 := hbc.out.trans (ha8.old u0.heap.size hbc.out.size lOX.out)
            have hb9 := hb8.trans (ha9.old u0.heap.size hb8.size lOY.out)
            have HB8 := hide hb8
            have HFIN : Hid (Below u0.heap.size u0 v9 ∧ VAt v9 bx sx h8x Ex r8x Tx t8x aox mx dx ∧ VAt v9 by_ sy h8y Ey r8y Ty t8y aoy my dy ∧ RowIn .i64 v9 aox mx dx (mvW n zs) ∧ RowIn .i64 v9 aoy my dy (mvW n qs)) :=
              hide ⟨hb9, (OX8.apart ha9 (fun e => nb.out (by omega))).vat, OY9.vat, (HX.out.aside ha8 nXX.out).aside ha9 nXY.out, (HY.out.aside ha8 nYX.out).aside ha9 nYY.out⟩
            have HB9 := hide hb9
            clear hb8 hb9 OX8 OY9 ha8 ha9
            refine wpAnyH_ready (rs := [8]) (by kernel_rfl) (by simp) ?_
            refine AllReadyH.cons (o := _) rfl (fun K hK => ?_) AllReadyH.nil
            refine step_store_at 30 (.tmp 8) (.tmp 21) rfl rfl _ _ rfl rfl v8 hr8_ ?_
            refine hK.out _ _ (hcs.out _ HB8.out) (fun hHeld => ?_)
            clear hK K
            refine wpAnyH_ready (rs := [9]) (by kernel_rfl) (by simp) ?_
            refine AllReadyH.cons (o := _) rfl (fun K hK => ?_) AllReadyH.nil
            refine step_store_at 30 (.tmp 9) (.tmp 24) rfl rfl _ _ rfl rfl v9 hr9_ ?_
            refine hK.out _ _ (hcs.out _ HB9.out) (fun hHeld => ?_)
            clear hK K
            refine wpAnyH_done (by kernel_rfl) ?_ _
            refine NoPanic.normal ?_
            go_wp2
            go_meet
            exact ⟨bx, by_, aox, dx, aoy, dy, rfl, rfl, HFIN⟩
  case rest =>
    obtain ⟨bx, by_, aox, dx, aoy, dy, rfl, rfl, hF⟩ := hcut
    obtain ⟨hbel, hvx, hvy, hrx, hry⟩ := hF.out
    have HVX := hide hvx
    have HVY := hide hvy
    have HX := hide hrx
    have HY := hide hry
    replace HC := hide (HC.out.below hbel)
    replace HN := hide (HN.out.trans (hbel.mono HN.out.size))
    clear hbel
    clear hvx hvy hrx hry hF HV HK HZ HQ
    obtain ⟨pL, p0, p1, p2⟩ := HC.out
    obtain ⟨qL, q0, q1, q2, q3, q4, q5, q6⟩ := HVX.out
    obtain ⟨rL, r0, r1, r2, r3, r4, r5, r6⟩ := HVY.out
    obtain ⟨sh, hsh⟩ : ∃ b, Hid (shows n S sx h8x Ex r8x Tx t8x (mvW n zs) sy h8y Ey r8y Ty t8y (mvW n qs) = b) := ⟨_, rfl⟩
    have hsh2 : Hid (shows n S sy h8y Ey r8y Ty t8y (mvW n qs) sx h8x Ex r8x Tx t8x (mvW n zs) = sh) := hide (by rw [shows_comm]; exact hsh.out)
    obtain ⟨ZZ, hZZ⟩ : ∃ b, Hid (shown sh (bth (mvW n zs) (mvW n qs)) = b) := ⟨_, rfl⟩
    have hZ2 : Hid (shown sh (bth (mvW n qs) (mvW n zs)) = ZZ) := hide (by rw [bth_comm]; exact hZZ.out)
    obtain ⟨L, hL⟩ : ∃ b, Hid (ZZ.length = b) := ⟨_, rfl⟩
    go_wp2_with fail
    refine (swho_any (mvW n zs) (mvW n qs) _ _ _ _ _ _ _ _ _ _ _ _ _ _ _ _ _ _ _ _ _ _ _ _ HX.out HY.out (by omega) (by omega) (by omega) (by omega) (by omega)).mono ?_
    rintro e w5 ⟨ao5, d5, rfl, hR, hbel⟩
    rw [hsh.out, hZZ.out, hL.out] at hR ⊢
    have HP := hide hR
    clear hR
    clear pL p0 p1 p2
    clear qL q0 q1 q2 q3 q4 q5 q6
    clear rL r0 r1 r2 r3 r4 r5 r6
    replace HC := hide (HC.out.below hbel)
    replace HVX := hide (HVX.out.below hbel)
    replace HVY := hide (HVY.out.below hbel)
    replace HX := hide (HX.out.below hbel)
    replace HY := hide (HY.out.below hbel)
    replace HN := hide (HN.out.trans (hbel.mono HN.out.size))
    clear hbel
    obtain ⟨pL, p0, p1, p2⟩ := HC.out
    obtain ⟨qL, q0, q1, q2, q3, q4, q5, q6⟩ := HVX.out
    obtain ⟨rL, r0, r1, r2, r3, r4, r5, r6⟩ := HVY.out
    go_wp2_with fail
    refine (swho_any (mvW n qs) (mvW n zs) _ _ _ _ _ _ _ _ _ _ _ _ _ _ _ _ _ _ _ _ _ _ _ _ HY.out HX.out (by omega) (by omega) (by omega) (by omega) (by omega)).mono ?_
    rintro e w6 ⟨ao6, d6, rfl, hR, hbel⟩
    rw [hsh2.out, hZ2.out, hL.out] at hR ⊢
    have HQ := hide hR
    clear hR
    clear pL p0 p1 p2
    clear qL q0 q1 q2 q3 q4 q5 q6
    clear rL r0 r1 r2 r3 r4 r5 r6
    replace HP := hide (HP.out.below hbel)
    replace HN := hide (HN.out.trans (hbel.mono HN.out.size))
    clear hbel
    clear HC HVX HVY HX HY
    have hg := (HN.out.cell (p := ⟨0, 0, none⟩) HL.out).trans HG.out
    go_wp2_with fail
    refine (number_errP sh _ hg).mono ?_
    rintro e w7 ⟨rfl, hbel⟩
    clear hg
    replace HP := hide (HP.out.below hbel)
    replace HQ := hide (HQ.out.below hbel)
    replace HN := hide (HN.out.trans (hbel.mono HN.out.size))
    clear hbel
    have hg := (HN.out.cell (p := ⟨0, 0, none⟩) HL.out).trans HG.out
    go_wp2_with fail
    refine (number_errP sh _ hg).mono ?_
    rintro e w8 ⟨rfl, hbel⟩
    clear hg
    replace HP := hide (HP.out.below hbel)
    replace HQ := hide (HQ.out.below hbel)
    replace HN := hide (HN.out.trans (hbel.mono HN.out.size))
    clear hbel
    generalize numP sh = num
    have hlz := hL.out
    have hc5 := HP.out.cap
    have hc6 := HQ.out.cap
    unfold maxLen at hc5 hc6
    go_wp2
    go_loopw [55] (fun i wr => ∃ k : Nat, k ≤ L ∧ i = .int .i64 k ∧ Hid (Below w8.heap.size w8 wr)) (fun i _ => L - (intOf i).toNat)
    case atStart => exact ⟨0, Nat.zero_le _, rfl, hide (Below.refl _ _)⟩
    case round =>
      obtain ⟨k, hk, rfl, hI⟩ := hrel
      by_cases hlt : k < L
      · obtain ⟨b5, o5, rfl, hb5, c5⟩ := (HP.out.below hI.out).cell k hlt
        obtain ⟨b6, o6, rfl, hb6, c6⟩ := (HQ.out.below hI.out).cell k hlt
        have hki : (0 : Int) ≤ (k : Int) ∧ (k : Int) < (L : Int) := by omega
        obtain ⟨x, hx⟩ : ∃ x, Hid (ZZ.getD k 0 = x) := ⟨_, rfl⟩
        rw [hx.out] at c5 c6
        go_wp2
        go_quiet (fail)
        go_wp2
        go_roundw
        case rel => exact ⟨k + 1, by omega, by go_num, hide (below_drewN hI.out _)⟩
        case measure => simp [intOf]; omega
      · have : k = L := by omega
        subst this
        go_wp2
        go_ret
        exact ⟨rfl, HN.out.trans (hI.out.mono HN.out.size)⟩

set_option maxRecDepth 100000 in
theorem lifted (os : Os) (started : os.Started) (H : Type) (enc : TypeId × Value → H) :
    ReturnsInHanded {} Tryd.checked os 4 .any (fun w args => (Rows.slashTurnSpec.pre enc Tryd.prog Tryd.f4 [] false w args ∧ laidMetH Tryd.prog laid w) ∧ sizedMet enc Tryd.prog Tryd.f4 (OpenSpec.ofChange Rows.slashTurnSpec) false w args)
      (Rows.slashTurnSpec.post enc Tryd.prog Tryd.f4 false true false false) := by
  refine returnsInHanded_of_change_and (C := Tryd.checked) (X := fun w _ => laidMetH Tryd.prog laid w) (fun _ _ _ hh h => h.of_heap hh) own started (by kernel_rfl) Tryd.func4
    (ChangeSpec.witness_at (enc := enc) (C := Tryd.checked) (os := os) (X := fun w _ => laidMetH Tryd.prog laid w) false (laidWorld os) #[.agg #[.slice none 0 0, .int .i64 0, .int .i64 0], .agg #[.int .i64 0, .int .u64 0, .int .i64 0, .int .u64 0, .int .i64 0, .int .u64 0, .slice none 0 0], .agg #[.int .i64 0, .int .u64 0, .int .i64 0, .int .u64 0, .int .i64 0, .int .u64 0, .slice none 0 0]] 8 rfl (by kernel_rfl) (by kernel_rfl) (by kernel_rfl) (by kernel_rfl) (by kernel_rfl) (laidWorld_met os _)) ?_
  intro W base args ds gs before hval0 hW _ _ hL _
  have hg := handle_of_laid hL
  have hval : ∀ (j : Nat) t v, Tryd.f4.params[j]? = some t → args[j]? = some v → Value.okWide Tryd.prog W .any base t v := hval0
  have hW' := hW
  obtain ⟨p, q, hA0, hV, rfl, hfz, hnd⟩ := hW
  have hA : DataW.TrodAll enc Tryd.prog W 0 (fun _ => true) true Tryd.f4.params.toList args.toList ds p := hA0
  rw [Tryd.params4] at hA hval
  obtain ⟨v0, vs0, d0, ds0, p0, q0, hargs, rfl, rfl, h0, r0⟩ := trodAll_cons hA
  obtain ⟨v1, vs1, d1, ds1, p1, q1, rfl, rfl, rfl, h1, r1⟩ := trodAll_cons r0
  obtain ⟨v2, vs2, d2, ds2, p2, q2, rfl, rfl, rfl, h2, r2⟩ := trodAll_cons r1
  obtain ⟨rfl, rfl, rfl⟩ := trodAll_nil r2
  obtain rfl : args = #[v0, v1, v2] := by cases args; simp_all
  obtain ⟨rfl, rfl⟩ := trodVars_none hV
  obtain ⟨cs0, rfl, sz0⟩ := okWide_struct Tryd.underlying24 (hval 0 24 v0 rfl rfl)
  rw [cells24] at sz0
  obtain ⟨l0⟩ := cs0
  obtain ⟨c0_0, c0_1, c0_2, rfl⟩ := list3 (show l0.length = 3 from sz0)
  clear sz0
  have k0 := h0
  have lt0 : ∀ x ∈ p0, x.block < W.heap.size := by obtain ⟨m, hm⟩ := k0; exact DataW.trod_lt m _ _ _ hm
  obtain ⟨fuel0, hf0⟩ := h0
  simp only [Value.cells] at hf0
  obtain ⟨xs0_0t24, n0_0t24, _, hx0_0t24, _, hlen0_0t24, hf0_0t24⟩ := DataW.trod_struct Tryd.underlying24 hf0
  obtain ⟨y0_0t24_0, y0_0t24_1, y0_0t24_2, rfl⟩ := list3 (show xs0_0t24.length = 3 from hlen0_0t24)
  have hy0_0t24_0 : DataW.trod enc Tryd.prog W 0 (fun _ => true) true n0_0t24 22 [c0_0] = some y0_0t24_0 := by simpa [Value.cells, cells3, cells4, cells22, cells24, cells25, cells27, cells28, cells30] using hf0_0t24 0 _ rfl
  have hy0_0t24_1 : DataW.trod enc Tryd.prog W 0 (fun _ => true) true n0_0t24 3 [c0_1] = some y0_0t24_1 := by simpa [Value.cells, cells3, cells4, cells22, cells24, cells25, cells27, cells28, cells30] using hf0_0t24 1 _ rfl
  have hy0_0t24_2 : DataW.trod enc Tryd.prog W 0 (fun _ => true) true n0_0t24 3 [c0_2] = some y0_0t24_2 := by simpa [Value.cells, cells3, cells4, cells22, cells24, cells25, cells27, cells28, cells30] using hf0_0t24 2 _ rfl
  obtain ⟨a0_0, len0_0, cap0_0, z0_0, e0_0, w0_0⟩ : ∃ a len cap zs, c0_0 = .slice a len cap ∧ IsRow .u64 W a len cap zs := by
    rcases open_ints Tryd.underlying22 Tryd.underlying25 (by kernel_rfl) hy0_0t24_0 with ⟨hcs, _⟩ | ⟨x, l, c, zs, hcs, _, hl, hm, hz, _, hcell, hwz⟩
    · simp at hcs
      exact ⟨none, 0, 0, [], hcs, .inl ⟨rfl, rfl, rfl, rfl⟩⟩
    · simp at hcs
      exact ⟨_, _, _, zs, hcs, .inr ⟨_, rfl, hl, hm, by simpa using hz, hcell, hwz⟩⟩
  subst e0_0
  obtain ⟨a0_1, e0_1, x0_1, w0_1⟩ := DataW.trod_int Tryd.underlying3 hy0_0t24_1
  simp at e0_1
  subst e0_1
  obtain ⟨a0_2, e0_2, x0_2, w0_2⟩ := DataW.trod_int Tryd.underlying3 hy0_0t24_2
  simp at e0_2
  subst e0_2
  obtain ⟨cs1, rfl, sz1⟩ := okWide_struct Tryd.underlying30 (hval 1 30 v1 rfl rfl)
  rw [cells30] at sz1
  obtain ⟨l1⟩ := cs1
  obtain ⟨c1_0, c1_1, c1_2, c1_3, c1_4, c1_5, c1_6, rfl⟩ := list7 (show l1.length = 7 from sz1)
  clear sz1
  have k1 := h1
  have lt1 : ∀ x ∈ p1, x.block < W.heap.size := by obtain ⟨m, hm⟩ := k1; exact DataW.trod_lt m _ _ _ hm
  obtain ⟨fuel1, hf1⟩ := h1
  simp only [Value.cells] at hf1
  obtain ⟨xs1_0t30, n1_0t30, _, hx1_0t30, _, hlen1_0t30, hf1_0t30⟩ := DataW.trod_struct Tryd.underlying30 hf1
  obtain ⟨y1_0t30_0, y1_0t30_1, y1_0t30_2, y1_0t30_3, y1_0t30_4, rfl⟩ := list5 (show xs1_0t30.length = 5 from hlen1_0t30)
  have hy1_0t30_0 : DataW.trod enc Tryd.prog W 0 (fun _ => true) true n1_0t30 3 [c1_0] = some y1_0t30_0 := by simpa [Value.cells, cells3, cells4, cells22, cells24, cells25, cells27, cells28, cells30] using hf1_0t30 0 _ rfl
  have hy1_0t30_1 : DataW.trod enc Tryd.prog W 0 (fun _ => true) true n1_0t30 25 [c1_1] = some y1_0t30_1 := by simpa [Value.cells, cells3, cells4, cells22, cells24, cells25, cells27, cells28, cells30] using hf1_0t30 1 _ rfl
  have hy1_0t30_2 : DataW.trod enc Tryd.prog W 0 (fun _ => true) true n1_0t30 27 [c1_2, c1_3] = some y1_0t30_2 := by simpa [Value.cells, cells3, cells4, cells22, cells24, cells25, cells27, cells28, cells30] using hf1_0t30 2 _ rfl
  have hy1_0t30_3 : DataW.trod enc Tryd.prog W 0 (fun _ => true) true n1_0t30 27 [c1_4, c1_5] = some y1_0t30_3 := by simpa [Value.cells, cells3, cells4, cells22, cells24, cells25, cells27, cells28, cells30] using hf1_0t30 3 _ rfl
  have hy1_0t30_4 : DataW.trod enc Tryd.prog W 0 (fun _ => true) true n1_0t30 28 [c1_6] = some y1_0t30_4 := by simpa [Value.cells, cells3, cells4, cells22, cells24, cells25, cells27, cells28, cells30] using hf1_0t30 4 _ rfl
  obtain ⟨a1_0, e1_0, x1_0, w1_0⟩ := DataW.trod_int Tryd.underlying3 hy1_0t30_0
  simp at e1_0
  subst e1_0
  obtain ⟨a1_1, e1_1, x1_1, w1_1⟩ := DataW.trod_int Tryd.underlying25 hy1_0t30_1
  simp at e1_1
  subst e1_1
  obtain ⟨xs1_2t27, n1_2t27, _, hx1_2t27, _, hlen1_2t27, hf1_2t27⟩ := DataW.trod_struct Tryd.underlying27 hy1_0t30_2
  obtain ⟨y1_2t27_0, y1_2t27_1, rfl⟩ := list2 (show xs1_2t27.length = 2 from hlen1_2t27)
  have hy1_2t27_0 : DataW.trod enc Tryd.prog W 0 (fun _ => true) true n1_2t27 3 [c1_2] = some y1_2t27_0 := by simpa [Value.cells, cells3, cells4, cells22, cells24, cells25, cells27, cells28, cells30] using hf1_2t27 0 _ rfl
  have hy1_2t27_1 : DataW.trod enc Tryd.prog W 0 (fun _ => true) true n1_2t27 25 [c1_3] = some y1_2t27_1 := by simpa [Value.cells, cells3, cells4, cells22, cells24, cells25, cells27, cells28, cells30] using hf1_2t27 1 _ rfl
  obtain ⟨a1_2, e1_2, x1_2, w1_2⟩ := DataW.trod_int Tryd.underlying3 hy1_2t27_0
  simp at e1_2
  subst e1_2
  obtain ⟨a1_3, e1_3, x1_3, w1_3⟩ := DataW.trod_int Tryd.underlying25 hy1_2t27_1
  simp at e1_3
  subst e1_3
  obtain ⟨xs1_4t27, n1_4t27, _, hx1_4t27, _, hlen1_4t27, hf1_4t27⟩ := DataW.trod_struct Tryd.underlying27 hy1_0t30_3
  obtain ⟨y1_4t27_0, y1_4t27_1, rfl⟩ := list2 (show xs1_4t27.length = 2 from hlen1_4t27)
  have hy1_4t27_0 : DataW.trod enc Tryd.prog W 0 (fun _ => true) true n1_4t27 3 [c1_4] = some y1_4t27_0 := by simpa [Value.cells, cells3, cells4, cells22, cells24, cells25, cells27, cells28, cells30] using hf1_4t27 0 _ rfl
  have hy1_4t27_1 : DataW.trod enc Tryd.prog W 0 (fun _ => true) true n1_4t27 25 [c1_5] = some y1_4t27_1 := by simpa [Value.cells, cells3, cells4, cells22, cells24, cells25, cells27, cells28, cells30] using hf1_4t27 1 _ rfl
  obtain ⟨a1_4, e1_4, x1_4, w1_4⟩ := DataW.trod_int Tryd.underlying3 hy1_4t27_0
  simp at e1_4
  subst e1_4
  obtain ⟨a1_5, e1_5, x1_5, w1_5⟩ := DataW.trod_int Tryd.underlying25 hy1_4t27_1
  simp at e1_5
  subst e1_5
  obtain ⟨a1_6, len1_6, cap1_6, z1_6, e1_6, w1_6⟩ : ∃ a len cap zs, c1_6 = .slice a len cap ∧ IsRow .i64 W a len cap zs := by
    rcases open_ints Tryd.underlying28 Tryd.underlying3 (by kernel_rfl) hy1_0t30_4 with ⟨hcs, _⟩ | ⟨x, l, c, zs, hcs, _, hl, hm, hz, _, hcell, hwz⟩
    · simp at hcs
      exact ⟨none, 0, 0, [], hcs, .inl ⟨rfl, rfl, rfl, rfl⟩⟩
    · simp at hcs
      exact ⟨_, _, _, zs, hcs, .inr ⟨_, rfl, hl, hm, by simpa using hz, hcell, hwz⟩⟩
  subst e1_6
  obtain ⟨cs2, rfl, sz2⟩ := okWide_struct Tryd.underlying30 (hval 2 30 v2 rfl rfl)
  rw [cells30] at sz2
  obtain ⟨l2⟩ := cs2
  obtain ⟨c2_0, c2_1, c2_2, c2_3, c2_4, c2_5, c2_6, rfl⟩ := list7 (show l2.length = 7 from sz2)
  clear sz2
  have k2 := h2
  have lt2 : ∀ x ∈ p2, x.block < W.heap.size := by obtain ⟨m, hm⟩ := k2; exact DataW.trod_lt m _ _ _ hm
  obtain ⟨fuel2, hf2⟩ := h2
  simp only [Value.cells] at hf2
  obtain ⟨xs2_0t30, n2_0t30, _, hx2_0t30, _, hlen2_0t30, hf2_0t30⟩ := DataW.trod_struct Tryd.underlying30 hf2
  obtain ⟨y2_0t30_0, y2_0t30_1, y2_0t30_2, y2_0t30_3, y2_0t30_4, rfl⟩ := list5 (show xs2_0t30.length = 5 from hlen2_0t30)
  have hy2_0t30_0 : DataW.trod enc Tryd.prog W 0 (fun _ => true) true n2_0t30 3 [c2_0] = some y2_0t30_0 := by simpa [Value.cells, cells3, cells4, cells22, cells24, cells25, cells27, cells28, cells30] using hf2_0t30 0 _ rfl
  have hy2_0t30_1 : DataW.trod enc Tryd.prog W 0 (fun _ => true) true n2_0t30 25 [c2_1] = some y2_0t30_1 := by simpa [Value.cells, cells3, cells4, cells22, cells24, cells25, cells27, cells28, cells30] using hf2_0t30 1 _ rfl
  have hy2_0t30_2 : DataW.trod enc Tryd.prog W 0 (fun _ => true) true n2_0t30 27 [c2_2, c2_3] = some y2_0t30_2 := by simpa [Value.cells, cells3, cells4, cells22, cells24, cells25, cells27, cells28, cells30] using hf2_0t30 2 _ rfl
  have hy2_0t30_3 : DataW.trod enc Tryd.prog W 0 (fun _ => true) true n2_0t30 27 [c2_4, c2_5] = some y2_0t30_3 := by simpa [Value.cells, cells3, cells4, cells22, cells24, cells25, cells27, cells28, cells30] using hf2_0t30 3 _ rfl
  have hy2_0t30_4 : DataW.trod enc Tryd.prog W 0 (fun _ => true) true n2_0t30 28 [c2_6] = some y2_0t30_4 := by simpa [Value.cells, cells3, cells4, cells22, cells24, cells25, cells27, cells28, cells30] using hf2_0t30 4 _ rfl
  obtain ⟨a2_0, e2_0, x2_0, w2_0⟩ := DataW.trod_int Tryd.underlying3 hy2_0t30_0
  simp at e2_0
  subst e2_0
  obtain ⟨a2_1, e2_1, x2_1, w2_1⟩ := DataW.trod_int Tryd.underlying25 hy2_0t30_1
  simp at e2_1
  subst e2_1
  obtain ⟨xs2_2t27, n2_2t27, _, hx2_2t27, _, hlen2_2t27, hf2_2t27⟩ := DataW.trod_struct Tryd.underlying27 hy2_0t30_2
  obtain ⟨y2_2t27_0, y2_2t27_1, rfl⟩ := list2 (show xs2_2t27.length = 2 from hlen2_2t27)
  have hy2_2t27_0 : DataW.trod enc Tryd.prog W 0 (fun _ => true) true n2_2t27 3 [c2_2] = some y2_2t27_0 := by simpa [Value.cells, cells3, cells4, cells22, cells24, cells25, cells27, cells28, cells30] using hf2_2t27 0 _ rfl
  have hy2_2t27_1 : DataW.trod enc Tryd.prog W 0 (fun _ => true) true n2_2t27 25 [c2_3] = some y2_2t27_1 := by simpa [Value.cells, cells3, cells4, cells22, cells24, cells25, cells27, cells28, cells30] using hf2_2t27 1 _ rfl
  obtain ⟨a2_2, e2_2, x2_2, w2_2⟩ := DataW.trod_int Tryd.underlying3 hy2_2t27_0
  simp at e2_2
  subst e2_2
  obtain ⟨a2_3, e2_3, x2_3, w2_3⟩ := DataW.trod_int Tryd.underlying25 hy2_2t27_1
  simp at e2_3
  subst e2_3
  obtain ⟨xs2_4t27, n2_4t27, _, hx2_4t27, _, hlen2_4t27, hf2_4t27⟩ := DataW.trod_struct Tryd.underlying27 hy2_0t30_3
  obtain ⟨y2_4t27_0, y2_4t27_1, rfl⟩ := list2 (show xs2_4t27.length = 2 from hlen2_4t27)
  have hy2_4t27_0 : DataW.trod enc Tryd.prog W 0 (fun _ => true) true n2_4t27 3 [c2_4] = some y2_4t27_0 := by simpa [Value.cells, cells3, cells4, cells22, cells24, cells25, cells27, cells28, cells30] using hf2_4t27 0 _ rfl
  have hy2_4t27_1 : DataW.trod enc Tryd.prog W 0 (fun _ => true) true n2_4t27 25 [c2_5] = some y2_4t27_1 := by simpa [Value.cells, cells3, cells4, cells22, cells24, cells25, cells27, cells28, cells30] using hf2_4t27 1 _ rfl
  obtain ⟨a2_4, e2_4, x2_4, w2_4⟩ := DataW.trod_int Tryd.underlying3 hy2_4t27_0
  simp at e2_4
  subst e2_4
  obtain ⟨a2_5, e2_5, x2_5, w2_5⟩ := DataW.trod_int Tryd.underlying25 hy2_4t27_1
  simp at e2_5
  subst e2_5
  obtain ⟨a2_6, len2_6, cap2_6, z2_6, e2_6, w2_6⟩ : ∃ a len cap zs, c2_6 = .slice a len cap ∧ IsRow .i64 W a len cap zs := by
    rcases open_ints Tryd.underlying28 Tryd.underlying3 (by kernel_rfl) hy2_0t30_4 with ⟨hcs, _⟩ | ⟨x, l, c, zs, hcs, _, hl, hm, hz, _, hcell, hwz⟩
    · simp at hcs
      exact ⟨none, 0, 0, [], hcs, .inl ⟨rfl, rfl, rfl, rfl⟩⟩
    · simp at hcs
      exact ⟨_, _, _, zs, hcs, .inr ⟨_, rfl, hl, hm, by simpa using hz, hcell, hwz⟩⟩
  subst e2_6
  clear hA0 hval0
  refine (walk a0_0 len0_0 cap0_0 z0_0 a0_1 a0_2 a1_0 a1_1 a1_2 a1_3 a1_4 a1_5 a1_6 len1_6 cap1_6 z1_6 a2_0 a2_1 a2_2 a2_3 a2_4 a2_5 a2_6 len2_6 cap2_6 z2_6 W w0_0 w0_1 w0_2 w1_0 w1_1 w1_2 w1_3 w1_4 w1_5 w1_6 w2_0 w2_1 w2_2 w2_3 w2_4 w2_5 w2_6 hg).mono fun e W' ⟨he, bel⟩ => ?_
  subst he
  exact ⟨_, rfl, _, _, _, [], _, [], hW', trodAll_mk1 (shut_bool Tryd.underlying4 _), (trodAll_cons_mk (Below.trod laidOut (by kernel_rfl) (of_decide_eq_true (by kernel_rfl)) k0 bel lt0) (trodAll_cons_mk (Below.trod laidOut (by kernel_rfl) (of_decide_eq_true (by kernel_rfl)) k1 bel lt1) (trodAll_cons_mk (Below.trod laidOut (by kernel_rfl) (of_decide_eq_true (by kernel_rfl)) k2 bel lt2) trodAll_mk0))), rfl, bel.frame _, fun h => by cases h⟩

theorem over : Rows.SlashTurnSaid :=
  OpenClaim.holds_of_wide 4 Tryd.f4 rfl rfl rfl rfl rfl rfl rfl ⟨rfl, rfl, rfl, rfl, rfl⟩ rfl rfl rfl rfl rfl (by kernel_rfl) Tryd.func4 (by kernel_rfl)
    (of_decide_eq_true (by kernel_rfl)) (by unfold Func.isWrapper; rw [if_neg (of_decide_eq_false (by kernel_rfl))]; exact ⟨rfl, rfl⟩)
    (fun os started H enc _ => lifted os started H enc)

theorem proved : Rows.SlashTurnCardSaid :=
  Claim7.holds_tied_plain_at .later [] [.handle] true (true, "f2bb3fc719b9f02d84c13fe440f902d19508b8e4122c2de0e99f295358eb8b54") true
    over (fun _ h => by cases h) (by kernel_rfl) (fun _ h => by cases h) slashTurn_row_tie rfl ⟨rfl, rfl⟩ (by kernel_rfl) rfl
    (fun f fn hf hfn => by
      obtain rfl : f = 4 := Option.some.inj ((show Tryd.prog.funcNamed "psephos/psephoslaw06.SlashTurn" = some 4 by kernel_rfl).symm.trans hf) |>.symm
      obtain rfl : fn = Tryd.f4 := (Option.some.inj (Tryd.func4.symm.trans hfn)).symm
      exact ⟨by kernel_rfl, fun j t ht => by
        rw [Tryd.params4] at ht
        have h3 : t ∈ [24, 30, 30] := by
          have := List.mem_of_getElem? (l := [24, 30, 30]) (i := j) (by simpa using ht)
          exact this
        simp only [List.mem_cons, List.not_mem_nil, or_false] at h3
        rcases h3 with rfl | rfl | rfl
        · exact (show Tryd.prog.wantsStandIn 24 = false by kernel_rfl)
        · exact (show Tryd.prog.wantsStandIn 30 = false by kernel_rfl)
        · exact (show Tryd.prog.wantsStandIn 30 = false by kernel_rfl)⟩)
    (by kernel_rfl)
end Go.Proofs.YtbmajbbgfolmiaaDoor.slashTurnCard

/-
  votes that say the same may both be, whoever votes (SlashSame is true of every input); the package variable errors.errorType reads as the program's text lays it. This is the tied card.
-/
import Derived.Test.YtbmajbbgfolmiaaDoorRows

import Derived.Test.YtbmajbbgfolmiaaDoorTie

import Derived.Test.YtbmajbbgfolmiaaDoorCards

import Derived.ChangeSame

import Derived.ChangeVars

import Derived.JoinedOf

import Derived.RowKit

import Derived.RowKitTokens

import Derived.LaidLaws

import Derived.LaidHandle

import Derived.Stop.Joined

import Derived.SevenTiedAt

import Derived.WalkKit

import Derived.Below

import Derived.ProofKit

import Derived.OpenShut

import Derived.ShutString

import Derived.ChangeOld

import Derived.Test.YtbmajbbgfolmiaaDoorSWho

import Derived.Test.YtbmajbbgfolmiaaDoorVSet

import Derived.Test.YtbmajbbgfolmiaaDoorANumb2

namespace Go.Proofs.YtbmajbbgfolmiaaDoor.slashSameCard

open Go.ChangeShapes Go.WideShapes Go.ChangeAt Go.RowKit

set_option linter.unusedVariables false

theorem et : Tryd.prog.globalNamed "errors.errorType" = some 0 := by kernel_rfl
theorem rt : (Tryd.prog.cutTypes.find? (·.1 == "internal/reflectlite.rtype")).map (·.2) = some 76 := by kernel_rfl
theorem size : Tryd.prog.types.size = 137 := by kernel_rfl
theorem oneRow : ((List.range 137).filter fun t => Tryd.prog.rowNamed t [101, 114, 114, 111, 114]) = [35] := by kernel_rfl
abbrev laid : List (String × DataW Unit) := [("errors.errorType", Rows.laid_errors_errorType)]
theorem handle_of_laid {W : World} (h : laidMetH Tryd.prog laid W) : W.cell? ⟨0, 0, none⟩ = some (.iface 76 (.agg #[.pointer (some ⟨1, 35, none⟩)])) := by
  have h' : laidMet Tryd.prog [] W ∧ handlesMet Tryd.prog laid W := h
  obtain ⟨name, u, ty, e1, e2, e3, e4, e5⟩ := h'.2 _ (List.mem_singleton.2 rfl)
  have en : name = [101, 114, 114, 111, 114] := (Option.some.inj e1).symm
  subst en
  obtain rfl := Option.some.inj (rt.symm.trans e2)
  have hm : ty ∈ (List.range 137).filter fun t => Tryd.prog.rowNamed t [101, 114, 114, 111, 114] := List.mem_filter.2 ⟨List.mem_range.2 (by rw [← size]; exact e3), e4⟩
  rw [oneRow] at hm
  obtain rfl := List.mem_singleton.1 hm
  have hh : typeHandle Tryd.prog 35 = .pointer (some ⟨1, 35, none⟩) := by kernel_rfl
  rw [hh] at e5
  simpa using World.var?_cell et e5 0
noncomputable def laidWorld (os : Os) : World :=
  let w0 := World.holding Tryd.prog os ⟨#[], #[], []⟩
  { w0 with heap := w0.heap.modify 0 fun
      | .cells _ t frozen => .cells #[.iface 76 (.agg #[.pointer (some ⟨1, 35, none⟩)])] t frozen
      | o => o }
theorem laidWorld_met (os : Os) (args : Array Value) : laidMetH Tryd.prog laid ((laidWorld os).forCall (fun _ _ => 0) ⟨#[], args, []⟩).memory :=
  laidMetH_of_parts (laidMet_nil _ _) (by kernel_rfl)
theorem own : ownKnob Tryd.prog.godebug = none := by kernel_rfl
theorem laidOut : laidOutB Tryd.prog = true := by kernel_rfl
theorem cells3 : Tryd.prog.cellsOf 3 = 1 := by kernel_rfl
theorem cells4 : Tryd.prog.cellsOf 4 = 1 := by kernel_rfl
theorem cells22 : Tryd.prog.cellsOf 22 = 1 := by kernel_rfl
theorem cells24 : Tryd.prog.cellsOf 24 = 3 := by kernel_rfl
theorem cells25 : Tryd.prog.cellsOf 25 = 1 := by kernel_rfl
theorem cells27 : Tryd.prog.cellsOf 27 = 2 := by kernel_rfl
theorem cells28 : Tryd.prog.cellsOf 28 = 1 := by kernel_rfl
theorem cells30 : Tryd.prog.cellsOf 30 = 7 := by kernel_rfl
theorem list2 {α : Type _} {l : List α} (h : l.length = 2) : ∃ x0 x1, l = [x0, x1] := by
  match l, h with
  | [x0, x1], _ => exact ⟨x0, x1, rfl⟩
theorem list3 {α : Type _} {l : List α} (h : l.length = 3) : ∃ x0 x1 x2, l = [x0, x1, x2] := by
  match l, h with
  | [x0, x1, x2], _ => exact ⟨x0, x1, x2, rfl⟩
theorem list5 {α : Type _} {l : List α} (h : l.length = 5) : ∃ x0 x1 x2 x3 x4, l = [x0, x1, x2, x3, x4] := by
  match l, h with
  | [x0, x1, x2, x3, x4], _ => exact ⟨x0, x1, x2, x3, x4, rfl⟩
theorem list7 {α : Type _} {l : List α} (h : l.length = 7) : ∃ x0 x1 x2 x3 x4 x5 x6, l = [x0, x1, x2, x3, x4, x5, x6] := by
  match l, h with
  | [x0, x1, x2, x3, x4, x5, x6], _ => exact ⟨x0, x1, x2, x3, x4, x5, x6, rfl⟩

set_option maxRecDepth 100000 in
set_option maxHeartbeats 4000000 in
theorem walk (a0_0 : Option Addr) (len0_0 cap0_0 : Nat) (z0_0 : List Int) (a0_1 : Int) (a0_2 : Int) (a1_0 : Int) (a1_1 : Int) (a1_2 : Int) (a1_3 : Int) (a1_4 : Int) (a1_5 : Int) (a1_6 : Option Addr) (len1_6 cap1_6 : Nat) (z1_6 : List Int) (a2 : Option Addr) (len2 cap2 : Nat) (z2 : List Int) (w : World) (w0_0 : IsRow .u64 w a0_0 len0_0 cap0_0 z0_0) (w0_1 : (Lit.int .i64 a0_1).wf = true) (w0_2 : (Lit.int .i64 a0_2).wf = true) (w1_0 : (Lit.int .i64 a1_0).wf = true) (w1_1 : (Lit.int .u64 a1_1).wf = true) (w1_2 : (Lit.int .i64 a1_2).wf = true) (w1_3 : (Lit.int .u64 a1_3).wf = true) (w1_4 : (Lit.int .i64 a1_4).wf = true) (w1_5 : (Lit.int .u64 a1_5).wf = true) (w1_6 : IsRow .i64 w a1_6 len1_6 cap1_6 z1_6) (w2 : IsRow .i64 w a2 len2 cap2 z2) (hg : w.cell? ⟨0, 0, none⟩ = some (.iface 76 (.agg #[.pointer (some ⟨1, 35, none⟩)]))) :
    Calls Tryd.prog 5 #[.agg #[.slice a0_0 len0_0 cap0_0, .int .i64 a0_1, .int .i64 a0_2], .agg #[.int .i64 a1_0, .int .u64 a1_1, .int .i64 a1_2, .int .u64 a1_3, .int .i64 a1_4, .int .u64 a1_5, .slice a1_6 len1_6 cap1_6], .slice a2 len2 cap2] w fun e w' => e = .returned (.bool true) ∧ Below w.heap.size w w' := by
  have hB := w0_0.row
  have hu := w0_0.u64
  have hs := wf_i64 w0_1
  have hb := wf_i64 w0_2
  have hZ := w1_6.row
  have hQ := w2.row
  have hv0 := wf_i64 w1_0
  have hv1 := wf_u64 w1_1
  have hv2 := wf_i64 w1_2
  have hv3 := wf_u64 w1_3
  have hv5 := wf_u64 w1_5
  clear w0_0 w0_1 w0_2 w1_0 w1_1 w1_2 w1_3 w1_4 w1_5 w1_6 w2
  generalize z0_0.take len0_0 = bs at *
  generalize z1_6.take len1_6 = zs at *
  generalize z2.take len2 = qs at *
  have hlt0 : 0 < w.heap.size := by
    rcases Nat.eq_zero_or_pos w.heap.size with h0 | h
    · simp [World.cell?, h0] at hg
    · exact h
  have HG := hide hg
  have HL := hide hlt0
  have HU := hide hu
  have HB := hide hB
  have HZ := hide hZ
  have HQ := hide hQ
  have HN := hide (Below.refl w.heap.size w)
  clear hg hlt0 hu hB hZ hQ
  replace HB := hide (HB.out.alloc (cfg a0_0 len0_0 cap0_0 a0_1 a0_2))
  replace HZ := hide (HZ.out.alloc (cfg a0_0 len0_0 cap0_0 a0_1 a0_2))
  replace HQ := hide (HQ.out.alloc (cfg a0_0 len0_0 cap0_0 a0_1 a0_2))
  replace HN := hide (HN.out.alloc HN.out.size (cfg a0_0 len0_0 cap0_0 a0_1 a0_2))
  have HC := hide (CAt.lit w w.heap.size rfl a0_0 len0_0 cap0_0 a0_1 a0_2)
  replace HB := hide (HB.out.alloc (vobj a1_0 a1_1 a1_2 a1_3 a1_4 a1_5 a1_6 len1_6 cap1_6))
  replace HZ := hide (HZ.out.alloc (vobj a1_0 a1_1 a1_2 a1_3 a1_4 a1_5 a1_6 len1_6 cap1_6))
  replace HQ := hide (HQ.out.alloc (vobj a1_0 a1_1 a1_2 a1_3 a1_4 a1_5 a1_6 len1_6 cap1_6))
  replace HC := hide (HC.out.alloc (vobj a1_0 a1_1 a1_2 a1_3 a1_4 a1_5 a1_6 len1_6 cap1_6))
  replace HN := hide (HN.out.alloc HN.out.size (vobj a1_0 a1_1 a1_2 a1_3 a1_4 a1_5 a1_6 len1_6 cap1_6))
  have HV := hide (VAt.lit (w.alloc (cfg a0_0 len0_0 cap0_0 a0_1 a0_2)) (w.heap.size + 1) (by simp) a1_0 a1_1 a1_2 a1_3 a1_4 a1_5 a1_6 len1_6 cap1_6)
  have hSb := mkS_b a0_1
  have hlb := mkBs_len bs
  obtain ⟨S, hS⟩ : ∃ x, Hid (mkS a0_1 = x) := ⟨_, rfl⟩
  obtain ⟨B, hB⟩ : ∃ x, Hid (mkB a0_2 = x) := ⟨_, rfl⟩
  obtain ⟨n, hn⟩ : ∃ x, Hid ((mkBs bs).length = x) := ⟨_, rfl⟩
  rw [hS.out] at hSb
  rw [hn.out] at hlb
  have hTb := epo_made a1_0 S hSb
  have hwb := mvW_len n zs hlb.1
  have hwq := mvW_len n qs hlb.1
  obtain ⟨T, hT⟩ : ∃ x, Hid (epo (a1_0 % 200) S = x) := ⟨_, rfl⟩
  obtain ⟨s, hs0⟩ : ∃ x, Hid (a1_0 % 200 = x) := ⟨_, rfl⟩
  obtain ⟨E, hE⟩ : ∃ x, Hid (a1_2 % (T + 1) = x) := ⟨_, rfl⟩
  obtain ⟨h8, hh8⟩ : ∃ x, Hid (a1_1 % 8 = x) := ⟨_, rfl⟩
  obtain ⟨r8, hr8⟩ : ∃ x, Hid (a1_3 % 8 = x) := ⟨_, rfl⟩
  obtain ⟨t8, ht8⟩ : ∃ x, Hid (a1_5 % 8 = x) := ⟨_, rfl⟩
  obtain ⟨m, hm0⟩ : ∃ x, Hid ((mvW n zs).length = x) := ⟨_, rfl⟩
  obtain ⟨q, hq0⟩ : ∃ x, Hid ((mvW n qs).length = x) := ⟨_, rfl⟩
  rw [hT.out] at hTb
  rw [hm0.out] at hwb
  rw [hq0.out] at hwq
  have hsb : 0 ≤ s ∧ s < 200 := by rw [← hs0.out]; omega
  go_enter Tryd.func5, Tryd.ntmps5
  go_wp2_with fail
  refine (awake_any _).mono ?_
  rintro e w1 ⟨rfl, hbel⟩
  replace HB := hide (HB.out.below hbel)
  replace HZ := hide (HZ.out.below hbel)
  replace HQ := hide (HQ.out.below hbel)
  replace HC := hide (HC.out.below hbel)
  replace HV := hide (HV.out.below hbel)
  replace HN := hide (HN.out.trans (hbel.mono HN.out.size))
  clear hbel
  obtain ⟨pL, p0, p1, p2⟩ := HC.out
  go_wp2_with fail
  refine (make_any bs _ _ _ _ _ _ HB.out HU.out hs hb).mono ?_
  rintro e w2 ⟨ao, d, rfl, hR, hbel⟩
  clear pL p0 p1 p2
  clear hR HC
  rw [hS.out, hB.out, hn.out]
  replace HZ := hide (HZ.out.below hbel)
  replace HQ := hide (HQ.out.below hbel)
  replace HV := hide (HV.out.below hbel)
  replace HN := hide (HN.out.trans (hbel.mono HN.out.size))
  clear hbel
  clear HB
  replace HZ := hide (HZ.out.alloc (cfg ao n d S B))
  replace HQ := hide (HQ.out.alloc (cfg ao n d S B))
  replace HV := hide (HV.out.alloc (cfg ao n d S B))
  replace HN := hide (HN.out.alloc HN.out.size (cfg ao n d S B))
  have HC := hide (CAt.lit w2 w2.heap.size rfl ao n d S B)
  obtain ⟨qL, q0, q1, q2, q3, q4, q5, q6⟩ := HV.out
  go_wp2_with fail
  refine (make5_any zs _ _ _ _ _ _ _ _ _ _ _ _ _ _ _ HZ.out hlb hSb hv0 hv1 hv2 hv3 hv5).mono ?_
  rintro e w3 ⟨ao2, d2, rfl, hR, hbel⟩
  clear qL q0 q1 q2 q3 q4 q5 q6
  rw [hT.out, hs0.out, hE.out, hh8.out, hr8.out, ht8.out, hm0.out]
  rw [hm0.out] at hR
  have HX := hide hR
  clear hR HV
  replace HQ := hide (HQ.out.below hbel)
  replace HC := hide (HC.out.below hbel)
  replace HN := hide (HN.out.trans (hbel.mono HN.out.size))
  clear hbel
  clear HZ
  have hWS := HN.out.size
  have hWC := HC.out.lt
  replace HQ := hide (HQ.out.alloc (vobj s h8 E r8 T t8 ao2 m d2))
  replace HC := hide (HC.out.alloc (vobj s h8 E r8 T t8 ao2 m d2))
  replace HX := hide (HX.out.alloc (vobj s h8 E r8 T t8 ao2 m d2))
  replace HN := hide (HN.out.alloc HN.out.size (vobj s h8 E r8 T t8 ao2 m d2))
  have HVX := hide (VAt.lit w3 w3.heap.size rfl s h8 E r8 T t8 ao2 m d2)
  replace HQ := hide (HQ.out.alloc (vobj s h8 E r8 T t8 ao2 m d2))
  replace HC := hide (HC.out.alloc (vobj s h8 E r8 T t8 ao2 m d2))
  replace HX := hide (HX.out.alloc (vobj s h8 E r8 T t8 ao2 m d2))
  replace HVX := hide (HVX.out.alloc (vobj s h8 E r8 T t8 ao2 m d2))
  replace HN := hide (HN.out.alloc HN.out.size (vobj s h8 E r8 T t8 ao2 m d2))
  have HVY := hide (VAt.lit (w3.alloc (vobj s h8 E r8 T t8 ao2 m d2)) (w3.heap.size + 1) (by simp) s h8 E r8 T t8 ao2 m d2)
  have HF : Hid (((w3.alloc (vobj s h8 E r8 T t8 ao2 m d2)).alloc (vobj s h8 E r8 T t8 ao2 m d2)).frozen? ⟨w3.heap.size + 1, 6, none⟩ = false) := hide (by simp [go_sem])
  obtain ⟨pL, p0, p1, p2⟩ := HC.out
  go_wp2_with fail
  refine (make5_any qs _ _ _ _ _ _ _ _ _ _ _ _ _ _ _ HQ.out hlb hSb (by omega) (by omega) (by omega) (by omega) (by omega)).mono ?_
  rintro e w4 ⟨ao4, d4, rfl, hR, hbel⟩
  clear pL p0 p1 p2
  rw [hq0.out] at hR ⊢
  have HY := hide hR
  clear hR
  have c6 := HVY.out.c6
  replace HF := hide ((hbel.frozen (p := ⟨w3.heap.size + 1, 6, none⟩) HVY.out.lt).trans HF.out)
  replace HC := hide (HC.out.below hbel)
  replace HX := hide (HX.out.below hbel)
  replace HVX := hide (HVX.out.below hbel)
  replace HVY := hide (HVY.out.below hbel)
  replace HN := hide (HN.out.trans (hbel.mono HN.out.size))
  clear hbel
  clear c6
  have c6 := HVY.out.c6
  have f6 := HF.out
  have hl3 := HVY.out.lt
  obtain ⟨u, hu⟩ : ∃ x, Hid (w4.setCell ⟨w3.heap.size + 1, 6, none⟩ (.slice ao4 q d4) = x) := ⟨_, rfl⟩
  have HCu := hide (HC.out.set (b' := w3.heap.size + 1) (i := 6) (by omega) (.slice ao4 q d4))
  have HVXu := hide (HVX.out.set (b' := w3.heap.size + 1) (i := 6) (by omega) (.slice ao4 q d4))
  have HVYu := hide (HVY.out.set6 ao4 q d4)
  have HXu := hide (HX.out.set c6 (.slice ao4 q d4))
  have HYu := hide (HY.out.set c6 (.slice ao4 q d4))
  have HNu := hide (HN.out.setCell (p := ⟨w3.heap.size + 1, 6, none⟩) (by simp; omega) (.slice ao4 q d4))
  rw [hu.out] at HCu HVXu HVYu HXu HYu HNu
  have hfld : ∀ te w', (Instr.field 30 (.agg (vcells 0 0 0 0 te 0 ao4 q d4)) 4).run Tryd.prog w' = .ok (.slice ao4 q d4) w' := fun _ _ => by kernel_rfl
  go_upto_region 7 with fail
  rw [hu.out]
  clear hfld
  clear c6 f6 hl3 HC HVX HVY HX HY HN HF
  obtain ⟨pL, p0, p1, p2⟩ := HCu.out
  obtain ⟨qL, q0, q1, q2, q3, q4, q5, q6⟩ := HVXu.out
  obtain ⟨rL, r0, r1, r2, r3, r4, r5, r6⟩ := HVYu.out
  have hbad := hide (badB_self s h8 E r8 T t8)
  have hsh : Hid (shows n S s h8 E r8 T t8 (mvW n zs) s h8 E r8 T t8 (mvW n qs) = false) := hide (by rw [shows, hbad.out, Bool.and_false, Bool.false_and])
  go_wp2_with fail
  refine (swho_any (mvW n zs) (mvW n qs) _ _ _ _ _ _ _ _ _ _ _ _ _ _ _ _ _ _ _ _ _ _ _ _ HXu.out HYu.out (by omega) (by omega) (by omega) (by omega) (by omega)).mono ?_
  rintro e w5 ⟨ao5, d5, rfl, hR, hbel⟩
  rw [hsh.out]
  clear pL p0 p1 p2
  clear qL q0 q1 q2 q3 q4 q5 q6
  clear rL r0 r1 r2 r3 r4 r5 r6
  clear hR
  replace HCu := hide (HCu.out.below hbel)
  replace HVXu := hide (HVXu.out.below hbel)
  replace HVYu := hide (HVYu.out.below hbel)
  replace HNu := hide (HNu.out.trans (hbel.mono HNu.out.size))
  clear hbel
  obtain ⟨qL, q0, q1, q2, q3, q4, q5, q6⟩ := HVXu.out
  obtain ⟨rL, r0, r1, r2, r3, r4, r5, r6⟩ := HVYu.out
  go_wp2_with fail
  refine (bad_any _ _ _ _ _ _ _ _ _ _ _ _ _ _ _ _ _ _ _).mono ?_
  rintro e w6 ⟨rfl, hbel⟩
  rw [hbad.out]
  clear qL q0 q1 q2 q3 q4 q5 q6
  clear rL r0 r1 r2 r3 r4 r5 r6
  replace HCu := hide (HCu.out.below hbel)
  replace HNu := hide (HNu.out.trans (hbel.mono HNu.out.size))
  clear hbel
  have hg := (HNu.out.cell (p := ⟨0, 0, none⟩) HL.out).trans HG.out
  go_wp2_with fail
  refine (number_any 11 _ hg).mono ?_
  rintro e w7 ⟨rfl, hbel⟩
  clear hg
  replace HCu := hide (HCu.out.below hbel)
  replace HNu := hide (HNu.out.trans (hbel.mono HNu.out.size))
  clear hbel
  go_wp2
  go_ret
  exact ⟨rfl, HNu.out⟩

set_option maxRecDepth 100000 in
theorem lifted (os : Os) (started : os.Started) (H : Type) (enc : TypeId × Value → H) :
    ReturnsInHanded {} Tryd.checked os 5 .any (fun w args => (Rows.slashSameSpec.pre enc Tryd.prog Tryd.f5 [] false w args ∧ laidMetH Tryd.prog laid w) ∧ sizedMet enc Tryd.prog Tryd.f5 (OpenSpec.ofChange Rows.slashSameSpec) false w args)
      (Rows.slashSameSpec.post enc Tryd.prog Tryd.f5 false true false false) := by
  refine returnsInHanded_of_change_and (C := Tryd.checked) (X := fun w _ => laidMetH Tryd.prog laid w) (fun _ _ _ hh h => h.of_heap hh) own started (by kernel_rfl) Tryd.func5
    (ChangeSpec.witness_at (enc := enc) (C := Tryd.checked) (os := os) (X := fun w _ => laidMetH Tryd.prog laid w) false (laidWorld os) #[.agg #[.slice none 0 0, .int .i64 0, .int .i64 0], .agg #[.int .i64 0, .int .u64 0, .int .i64 0, .int .u64 0, .int .i64 0, .int .u64 0, .slice none 0 0], .slice none 0 0] 8 rfl (by kernel_rfl) (by kernel_rfl) (by kernel_rfl) (by kernel_rfl) (by kernel_rfl) (laidWorld_met os _)) ?_
  intro W base args ds gs before hval0 hW _ _ hL _
  have hg := handle_of_laid hL
  have hval : ∀ (j : Nat) t v, Tryd.f5.params[j]? = some t → args[j]? = some v → Value.okWide Tryd.prog W .any base t v := hval0
  have hW' := hW
  obtain ⟨p, q, hA0, hV, rfl, hfz, hnd⟩ := hW
  have hA : DataW.TrodAll enc Tryd.prog W 0 (fun _ => true) true Tryd.f5.params.toList args.toList ds p := hA0
  rw [Tryd.params5] at hA hval
  obtain ⟨v0, vs0, d0, ds0, p0, q0, hargs, rfl, rfl, h0, r0⟩ := trodAll_cons hA
  obtain ⟨v1, vs1, d1, ds1, p1, q1, rfl, rfl, rfl, h1, r1⟩ := trodAll_cons r0
  obtain ⟨v2, vs2, d2, ds2, p2, q2, rfl, rfl, rfl, h2, r2⟩ := trodAll_cons r1
  obtain ⟨rfl, rfl, rfl⟩ := trodAll_nil r2
  obtain rfl : args = #[v0, v1, v2] := by cases args; simp_all
  obtain ⟨rfl, rfl⟩ := trodVars_none hV
  obtain ⟨cs0, rfl, sz0⟩ := okWide_struct Tryd.underlying24 (hval 0 24 v0 rfl rfl)
  rw [cells24] at sz0
  obtain ⟨l0⟩ := cs0
  obtain ⟨c0_0, c0_1, c0_2, rfl⟩ := list3 (show l0.length = 3 from sz0)
  clear sz0
  have k0 := h0
  have lt0 : ∀ x ∈ p0, x.block < W.heap.size := by obtain ⟨m, hm⟩ := k0; exact DataW.trod_lt m _ _ _ hm
  obtain ⟨fuel0, hf0⟩ := h0
  simp only [Value.cells] at hf0
  obtain ⟨xs0_0t24, n0_0t24, _, hx0_0t24, _, hlen0_0t24, hf0_0t24⟩ := DataW.trod_struct Tryd.underlying24 hf0
  obtain ⟨y0_0t24_0, y0_0t24_1, y0_0t24_2, rfl⟩ := list3 (show xs0_0t24.length = 3 from hlen0_0t24)
  have hy0_0t24_0 : DataW.trod enc Tryd.prog W 0 (fun _ => true) true n0_0t24 22 [c0_0] = some y0_0t24_0 := by simpa [Value.cells, cells3, cells4, cells22, cells24, cells25, cells27, cells28, cells30] using hf0_0t24 0 _ rfl
  have hy0_0t24_1 : DataW.trod enc Tryd.prog W 0 (fun _ => true) true n0_0t24 3 [c0_1] = some y0_0t24_1 := by simpa [Value.cells, cells3, cells4, cells22, cells24, cells25, cells27, cells28, cells30] using hf0_0t24 1 _ rfl
  have hy0_0t24_2 : DataW.trod enc Tryd.prog W 0 (fun _ => true) true n0_0t24 3 [c0_2] = some y0_0t24_2 := by simpa [Value.cells, cells3, cells4, cells22, cells24, cells25, cells27, cells28, cells30] using hf0_0t24 2 _ rfl
  obtain ⟨a0_0, len0_0, cap0_0, z0_0, e0_0, w0_0⟩ : ∃ a len cap zs, c0_0 = .slice a len cap ∧ IsRow .u64 W a len cap zs := by
    rcases open_ints Tryd.underlying22 Tryd.underlying25 (by kernel_rfl) hy0_0t24_0 with ⟨hcs, _⟩ | ⟨x, l, c, zs, hcs, _, hl, hm, hz, _, hcell, hwz⟩
    · simp at hcs
      exact ⟨none, 0, 0, [], hcs, .inl ⟨rfl, rfl, rfl, rfl⟩⟩
    · simp at hcs
      exact ⟨_, _, _, zs, hcs, .inr ⟨_, rfl, hl, hm, by simpa using hz, hcell, hwz⟩⟩
  subst e0_0
  obtain ⟨a0_1, e0_1, x0_1, w0_1⟩ := DataW.trod_int Tryd.underlying3 hy0_0t24_1
  simp at e0_1
  subst e0_1
  obtain ⟨a0_2, e0_2, x0_2, w0_2⟩ := DataW.trod_int Tryd.underlying3 hy0_0t24_2
  simp at e0_2
  subst e0_2
  obtain ⟨cs1, rfl, sz1⟩ := okWide_struct Tryd.underlying30 (hval 1 30 v1 rfl rfl)
  rw [cells30] at sz1
  obtain ⟨l1⟩ := cs1
  obtain ⟨c1_0, c1_1, c1_2, c1_3, c1_4, c1_5, c1_6, rfl⟩ := list7 (show l1.length = 7 from sz1)
  clear sz1
  have k1 := h1
  have lt1 : ∀ x ∈ p1, x.block < W.heap.size := by obtain ⟨m, hm⟩ := k1; exact DataW.trod_lt m _ _ _ hm
  obtain ⟨fuel1, hf1⟩ := h1
  simp only [Value.cells] at hf1
  obtain ⟨xs1_0t30, n1_0t30, _, hx1_0t30, _, hlen1_0t30, hf1_0t30⟩ := DataW.trod_struct Tryd.underlying30 hf1
  obtain ⟨y1_0t30_0, y1_0t30_1, y1_0t30_2, y1_0t30_3, y1_0t30_4, rfl⟩ := list5 (show xs1_0t30.length = 5 from hlen1_0t30)
  have hy1_0t30_0 : DataW.trod enc Tryd.prog W 0 (fun _ => true) true n1_0t30 3 [c1_0] = some y1_0t30_0 := by simpa [Value.cells, cells3, cells4, cells22, cells24, cells25, cells27, cells28, cells30] using hf1_0t30 0 _ rfl
  have hy1_0t30_1 : DataW.trod enc Tryd.prog W 0 (fun _ => true) true n1_0t30 25 [c1_1] = some y1_0t30_1 := by simpa [Value.cells, cells3, cells4, cells22, cells24, cells25, cells27, cells28, cells30] using hf1_0t30 1 _ rfl
  have hy1_0t30_2 : DataW.trod enc Tryd.prog W 0 (fun _ => true) true n1_0t30 27 [c1_2, c1_3] = some y1_0t30_2 := by simpa [Value.cells, cells3, cells4, cells22, cells24, cells25, cells27, cells28, cells30] using hf1_0t30 2 _ rfl
  have hy1_0t30_3 : DataW.trod enc Tryd.prog W 0 (fun _ => true) true n1_0t30 27 [c1_4, c1_5] = some y1_0t30_3 := by simpa [Value.cells, cells3, cells4, cells22, cells24, cells25, cells27, cells28, cells30] using hf1_0t30 3 _ rfl
  have hy1_0t30_4 : DataW.trod enc Tryd.prog W 0 (fun _ => true) true n1_0t30 28 [c1_6] = some y1_0t30_4 := by simpa [Value.cells, cells3, cells4, cells22, cells24, cells25, cells27, cells28, cells30] using hf1_0t30 4 _ rfl
  obtain ⟨a1_0, e1_0, x1_0, w1_0⟩ := DataW.trod_int Tryd.underlying3 hy1_0t30_0
  simp at e1_0
  subst e1_0
  obtain ⟨a1_1, e1_1, x1_1, w1_1⟩ := DataW.trod_int Tryd.underlying25 hy1_0t30_1
  simp at e1_1
  subst e1_1
  obtain ⟨xs1_2t27, n1_2t27, _, hx1_2t27, _, hlen1_2t27, hf1_2t27⟩ := DataW.trod_struct Tryd.underlying27 hy1_0t30_2
  obtain ⟨y1_2t27_0, y1_2t27_1, rfl⟩ := list2 (show xs1_2t27.length = 2 from hlen1_2t27)
  have hy1_2t27_0 : DataW.trod enc Tryd.prog W 0 (fun _ => true) true n1_2t27 3 [c1_2] = some y1_2t27_0 := by simpa [Value.cells, cells3, cells4, cells22, cells24, cells25, cells27, cells28, cells30] using hf1_2t27 0 _ rfl
  have hy1_2t27_1 : DataW.trod enc Tryd.prog W 0 (fun _ => true) true n1_2t27 25 [c1_3] = some y1_2t27_1 := by simpa [Value.cells, cells3, cells4, cells22, cells24, cells25, cells27, cells28, cells30] using hf1_2t27 1 _ rfl
  obtain ⟨a1_2, e1_2, x1_2, w1_2⟩ := DataW.trod_int Tryd.underlying3 hy1_2t27_0
  simp at e1_2
  subst e1_2
  obtain ⟨a1_3, e1_3, x1_3, w1_3⟩ := DataW.trod_int Tryd.underlying25 hy1_2t27_1
  simp at e1_3
  subst e1_3
  obtain ⟨xs1_4t27, n1_4t27, _, hx1_4t27, _, hlen1_4t27, hf1_4t27⟩ := DataW.trod_struct Tryd.underlying27 hy1_0t30_3
  obtain ⟨y1_4t27_0, y1_4t27_1, rfl⟩ := list2 (show xs1_4t27.length = 2 from hlen1_4t27)
  have hy1_4t27_0 : DataW.trod enc Tryd.prog W 0 (fun _ => true) true n1_4t27 3 [c1_4] = some y1_4t27_0 := by simpa [Value.cells, cells3, cells4, cells22, cells24, cells25, cells27, cells28, cells30] using hf1_4t27 0 _ rfl
  have hy1_4t27_1 : DataW.trod enc Tryd.prog W 0 (fun _ => true) true n1_4t27 25 [c1_5] = some y1_4t27_1 := by simpa [Value.cells, cells3, cells4, cells22, cells24, cells25, cells27, cells28, cells30] using hf1_4t27 1 _ rfl
  obtain ⟨a1_4, e1_4, x1_4, w1_4⟩ := DataW.trod_int Tryd.underlying3 hy1_4t27_0
  simp at e1_4
  subst e1_4
  obtain ⟨a1_5, e1_5, x1_5, w1_5⟩ := DataW.trod_int Tryd.underlying25 hy1_4t27_1
  simp at e1_5
  subst e1_5
  obtain ⟨a1_6, len1_6, cap1_6, z1_6, e1_6, w1_6⟩ : ∃ a len cap zs, c1_6 = .slice a len cap ∧ IsRow .i64 W a len cap zs := by
    rcases open_ints Tryd.underlying28 Tryd.underlying3 (by kernel_rfl) hy1_0t30_4 with ⟨hcs, _⟩ | ⟨x, l, c, zs, hcs, _, hl, hm, hz, _, hcell, hwz⟩
    · simp at hcs
      exact ⟨none, 0, 0, [], hcs, .inl ⟨rfl, rfl, rfl, rfl⟩⟩
    · simp at hcs
      exact ⟨_, _, _, zs, hcs, .inr ⟨_, rfl, hl, hm, by simpa using hz, hcell, hwz⟩⟩
  subst e1_6
  obtain ⟨a2, len2, cap2, rfl⟩ := okWide_slice Tryd.underlying28 (hval 2 28 v2 rfl rfl)
  have k2 := h2
  have lt2 : ∀ x ∈ p2, x.block < W.heap.size := by obtain ⟨m, hm⟩ := k2; exact DataW.trod_lt m _ _ _ hm
  obtain ⟨z2, w2⟩ : ∃ zs, IsRow .i64 W a2 len2 cap2 zs := by
    obtain ⟨fuel, hf⟩ := h2
    rcases open_ints Tryd.underlying28 Tryd.underlying3 (by kernel_rfl) hf with ⟨hcs, _⟩ | ⟨x, l, c, zs, hcs, _, hl, hm, hz, _, hcell, hwz⟩
    · simp [Value.cells] at hcs
      obtain ⟨rfl, rfl, rfl⟩ := hcs
      exact ⟨[], .inl ⟨rfl, rfl, rfl, rfl⟩⟩
    · simp [Value.cells] at hcs
      obtain ⟨rfl, rfl, rfl⟩ := hcs
      exact ⟨zs, .inr ⟨_, rfl, hl, hm, by simpa using hz, hcell, hwz⟩⟩
  clear hA0 hval0
  refine (walk a0_0 len0_0 cap0_0 z0_0 a0_1 a0_2 a1_0 a1_1 a1_2 a1_3 a1_4 a1_5 a1_6 len1_6 cap1_6 z1_6 a2 len2 cap2 z2 W w0_0 w0_1 w0_2 w1_0 w1_1 w1_2 w1_3 w1_4 w1_5 w1_6 w2 hg).mono fun e W' ⟨he, bel⟩ => ?_
  subst he
  exact ⟨_, rfl, _, _, _, [], _, [], hW', trodAll_mk1 (shut_bool Tryd.underlying4 _), (trodAll_cons_mk (Below.trod laidOut (by kernel_rfl) (of_decide_eq_true (by kernel_rfl)) k0 bel lt0) (trodAll_cons_mk (Below.trod laidOut (by kernel_rfl) (of_decide_eq_true (by kernel_rfl)) k1 bel lt1) (trodAll_cons_mk (Below.trod laidOut (by kernel_rfl) (of_decide_eq_true (by kernel_rfl)) k2 bel lt2) trodAll_mk0))), rfl, bel.frame _, fun h => by cases h⟩

theorem over : Rows.SlashSameSaid :=
  OpenClaim.holds_of_wide 5 Tryd.f5 rfl rfl rfl rfl rfl rfl rfl ⟨rfl, rfl, rfl, rfl, rfl⟩ rfl rfl rfl rfl rfl (by kernel_rfl) Tryd.func5 (by kernel_rfl)
    (of_decide_eq_true (by kernel_rfl)) (by unfold Func.isWrapper; rw [if_neg (of_decide_eq_false (by kernel_rfl))]; exact ⟨rfl, rfl⟩)
    (fun os started H enc _ => lifted os started H enc)

theorem proved : Rows.SlashSameCardSaid :=
  Claim7.holds_tied_plain_at .later [] [.handle] true (true, "f2bb3fc719b9f02d84c13fe440f902d19508b8e4122c2de0e99f295358eb8b54") true
    over (fun _ h => by cases h) (by kernel_rfl) (fun _ h => by cases h) slashSame_row_tie rfl ⟨rfl, rfl⟩ (by kernel_rfl) rfl
    (fun f fn hf hfn => by
      obtain rfl : f = 5 := Option.some.inj ((show Tryd.prog.funcNamed "psephos/psephoslaw06.SlashSame" = some 5 by kernel_rfl).symm.trans hf) |>.symm
      obtain rfl : fn = Tryd.f5 := (Option.some.inj (Tryd.func5.symm.trans hfn)).symm
      exact ⟨by kernel_rfl, fun j t ht => by
        rw [Tryd.params5] at ht
        have h3 : t ∈ [24, 30, 28] := by
          have := List.mem_of_getElem? (l := [24, 30, 28]) (i := j) (by simpa using ht)
          exact this
        simp only [List.mem_cons, List.not_mem_nil, or_false] at h3
        rcases h3 with rfl | rfl | rfl
        · exact (show Tryd.prog.wantsStandIn 24 = false by kernel_rfl)
        · exact (show Tryd.prog.wantsStandIn 30 = false by kernel_rfl)
        · exact (show Tryd.prog.wantsStandIn 28 = false by kernel_rfl)⟩)
    (by kernel_rfl)
end Go.Proofs.YtbmajbbgfolmiaaDoor.slashSameCard

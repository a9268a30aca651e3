/-
  where nobody votes nothing new is justified, and within four epochs nothing is left of what was (JustifyNone is true of every input).
-/
import Derived.Test.YtcajinccnnmlgaaRows

import Derived.WalkKit

import Derived.Below

import Derived.ProofKit

import Derived.OpenShut

import Derived.ShutString

import Derived.ChangeOld

import Derived.Test.YtcajinccnnmlgaaJAwake

import Derived.Test.YtcajinccnnmlgaaJEq

namespace Go.Proofs.Ytcajinccnnmlgaa.justifyNone

open Go.ChangeShapes Go.WideShapes Go.ChangeAt Go.RowKit

set_option linter.unusedVariables false

theorem own : ownKnob Try.prog.godebug = none := by kernel_rfl
theorem laidOut : laidOutB Try.prog = true := by kernel_rfl
theorem cells3 : Try.prog.cellsOf 3 = 1 := by kernel_rfl
theorem cells4 : Try.prog.cellsOf 4 = 1 := by kernel_rfl
theorem cells22 : Try.prog.cellsOf 22 = 4 := by kernel_rfl
theorem cells23 : Try.prog.cellsOf 23 = 1 := by kernel_rfl
theorem cells25 : Try.prog.cellsOf 25 = 2 := by kernel_rfl
theorem cells27 : Try.prog.cellsOf 27 = 10 := by kernel_rfl
theorem list2 {α : Type _} {l : List α} (h : l.length = 2) : ∃ x0 x1, l = [x0, x1] := by
  match l, h with
  | [x0, x1], _ => exact ⟨x0, x1, rfl⟩
theorem list4 {α : Type _} {l : List α} (h : l.length = 4) : ∃ x0 x1 x2 x3, l = [x0, x1, x2, x3] := by
  match l, h with
  | [x0, x1, x2, x3], _ => exact ⟨x0, x1, x2, x3, rfl⟩
theorem list10 {α : Type _} {l : List α} (h : l.length = 10) : ∃ x0 x1 x2 x3 x4 x5 x6 x7 x8 x9, l = [x0, x1, x2, x3, x4, x5, x6, x7, x8, x9] := by
  match l, h with
  | [x0, x1, x2, x3, x4, x5, x6, x7, x8, x9], _ => exact ⟨x0, x1, x2, x3, x4, x5, x6, x7, x8, x9, rfl⟩

set_option maxHeartbeats 4000000 in
set_option maxRecDepth 100000 in
theorem walk (a0_0 : Bool) (a0_1 : Bool) (a0_2 : Bool) (a0_3 : Bool) (a0_4 : Int) (a0_5 : Int) (a0_6 : Int) (a0_7 : Int) (a0_8 : Int) (a0_9 : Int) (a1 : Int) (a2_0 : Int) (a2_1 : Int) (a3_0 : Int) (a3_1 : Int) (w : World) (w0_4 : (Lit.int .i64 a0_4).wf = true) (w0_5 : (Lit.int .u64 a0_5).wf = true) (w0_6 : (Lit.int .i64 a0_6).wf = true) (w0_7 : (Lit.int .u64 a0_7).wf = true) (w0_8 : (Lit.int .i64 a0_8).wf = true) (w0_9 : (Lit.int .u64 a0_9).wf = true) (w1 : (Lit.int .i64 a1).wf = true) (w2_0 : (Lit.int .i64 a2_0).wf = true) (w2_1 : (Lit.int .u64 a2_1).wf = true) (w3_0 : (Lit.int .i64 a3_0).wf = true) (w3_1 : (Lit.int .u64 a3_1).wf = true) :
    Calls Try.prog 5 #[.agg #[.bool a0_0, .bool a0_1, .bool a0_2, .bool a0_3, .int .i64 a0_4, .int .u64 a0_5, .int .i64 a0_6, .int .u64 a0_7, .int .i64 a0_8, .int .u64 a0_9], .int .i64 a1, .agg #[.int .i64 a2_0, .int .u64 a2_1], .agg #[.int .i64 a3_0, .int .u64 a3_1]] w fun e w' => e = .returned (.bool true) ∧ Below w.heap.size w w' := by
  have HS := hide (((OAt.new w (.cells (scells a0_0 a0_1 a0_2 a0_3 a0_4 a0_5 a0_6 a0_7 a0_8 a0_9) 27)).alloc (.cells (pcells a2_0 a2_1) 25)).alloc (.cells (pcells a3_0 a3_1) 25))
  have HA := hide ((OAt.new (w.alloc (.cells (scells a0_0 a0_1 a0_2 a0_3 a0_4 a0_5 a0_6 a0_7 a0_8 a0_9) 27)) (.cells (pcells a2_0 a2_1) 25)).alloc (.cells (pcells a3_0 a3_1) 25))
  have HB := hide (OAt.new ((w.alloc (.cells (scells a0_0 a0_1 a0_2 a0_3 a0_4 a0_5 a0_6 a0_7 a0_8 a0_9) 27)).alloc (.cells (pcells a2_0 a2_1) 25)) (.cells (pcells a3_0 a3_1) 25))
  have HN := hide ((((Below.refl _ w).alloc (Nat.le_refl _) (.cells (scells a0_0 a0_1 a0_2 a0_3 a0_4 a0_5 a0_6 a0_7 a0_8 a0_9) 27)).alloc (by simp) (.cells (pcells a2_0 a2_1) 25)).alloc (by simp; omega) (.cells (pcells a3_0 a3_1) 25))
  simp only [World.size_alloc] at HS HA HB
  clear w0_4 w0_5 w0_6 w0_7 w0_8 w0_9 w1 w2_0 w2_1 w3_0 w3_1
  have hsz : Hid (w.heap.size + 3 ≤ (((w.alloc (.cells (scells a0_0 a0_1 a0_2 a0_3 a0_4 a0_5 a0_6 a0_7 a0_8 a0_9) 27)).alloc (.cells (pcells a2_0 a2_1) 25)).alloc (.cells (pcells a3_0 a3_1) 25)).heap.size) := hide (by simp)
  go_enter Try.func5, Try.ntmps5
  go_wp2_with fail
  refine (awake_any _).mono ?_
  rintro e w1 ⟨rfl, hbel⟩
  replace hsz := hide (Nat.le_trans hsz.out hbel.size)
  replace HS := hide (HS.out.below hbel)
  replace HA := hide (HA.out.below hbel)
  replace HB := hide (HB.out.below hbel)
  replace HN := hide (HN.out.trans (hbel.mono HN.out.size))
  clear hbel
  have s0 := HS.out.cell 0
  have s1 := HS.out.cell 1
  have s2 := HS.out.cell 2
  have s3 := HS.out.cell 3
  have s4 := HS.out.cell 4
  have s5 := HS.out.cell 5
  have s6 := HS.out.cell 6
  have s7 := HS.out.cell 7
  have s8 := HS.out.cell 8
  have s9 := HS.out.cell 9
  simp only [List.getElem?_toArray, List.getElem?_cons_zero, List.getElem?_cons_succ] at s0 s1 s2 s3 s4 s5 s6 s7 s8 s9
  have HV := hide (OAt.new w1 (.cells (scells a0_0 a0_1 a0_2 a0_3 a0_4 a0_5 a0_6 a0_7 a0_8 a0_9) 27))
  replace HS := hide (HS.out.alloc (.cells (scells a0_0 a0_1 a0_2 a0_3 a0_4 a0_5 a0_6 a0_7 a0_8 a0_9) 27))
  replace HA := hide (HA.out.alloc (.cells (scells a0_0 a0_1 a0_2 a0_3 a0_4 a0_5 a0_6 a0_7 a0_8 a0_9) 27))
  replace HB := hide (HB.out.alloc (.cells (scells a0_0 a0_1 a0_2 a0_3 a0_4 a0_5 a0_6 a0_7 a0_8 a0_9) 27))
  replace HN := hide (HN.out.alloc HN.out.size (.cells (scells a0_0 a0_1 a0_2 a0_3 a0_4 a0_5 a0_6 a0_7 a0_8 a0_9) 27))
  generalize hg : w1.heap.size = g at HV hsz
  generalize hW : w1.alloc (.cells (scells a0_0 a0_1 a0_2 a0_3 a0_4 a0_5 a0_6 a0_7 a0_8 a0_9) 27) = W at HS HA HB HN HV
  go_wp2
  clear hg hW s0 s1 s2 s3 s4 s5 s6 s7 s8 s9
  have hgn := hsz.out
  go_loopw [10] (fun i wr => ∃ (k : Nat) (b0 b1 b2 b3 : Bool) (pe pr fe fr : Int), k ≤ 4 ∧ i = .int .i64 k ∧ Hid ((1 ≤ k → b0 = false ∧ pe = a0_6 ∧ pr = a0_7) ∧ (2 ≤ k → b1 = false) ∧ (3 ≤ k → b2 = false) ∧ (4 ≤ k → b3 = false) ∧ OAt wr g (.cells (scells b0 b1 b2 b3 pe pr a0_6 a0_7 fe fr) 27) ∧ OAt wr w.heap.size (.cells (scells a0_0 a0_1 a0_2 a0_3 a0_4 a0_5 a0_6 a0_7 a0_8 a0_9) 27) ∧ OAt wr (w.heap.size + 1) (.cells (pcells a2_0 a2_1) 25) ∧ OAt wr (w.heap.size + 1 + 1) (.cells (pcells a3_0 a3_1) 25) ∧ Below w.heap.size w wr)) (fun i _ => 4 - (intOf i).toNat)
  case atStart =>
    exact ⟨0, a0_0, a0_1, a0_2, a0_3, a0_4, a0_5, a0_8, a0_9, by omega, rfl, hide ⟨fun h => by omega, fun h => by omega, fun h => by omega, fun h => by omega, HV.out, HS.out, HA.out, HB.out, HN.out⟩⟩
  case round =>
    clear HV HS HA HB HN
    obtain ⟨k, b0, b1, b2, b3, pe, pr, fe, fr, hk, rfl, hI⟩ := hrel
    obtain ⟨i1, i2, i3, i4, iV, iS, iA, iB, iN⟩ := hI.out
    have HV := hide iV
    have HS := hide iS
    have HA := hide iA
    have HB := hide iB
    have HN := hide iN
    have J1 := hide i1
    have J2 := hide i2
    have J3 := hide i3
    have J4 := hide i4
    clear hI i1 i2 i3 i4 iV iS iA iB iN
    have v0 := HV.out.cell 0
    have v1 := HV.out.cell 1
    have v2 := HV.out.cell 2
    have v3 := HV.out.cell 3
    have v4 := HV.out.cell 4
    have v5 := HV.out.cell 5
    have v6 := HV.out.cell 6
    have v7 := HV.out.cell 7
    have v8 := HV.out.cell 8
    have v9 := HV.out.cell 9
    simp only [List.getElem?_toArray, List.getElem?_cons_zero, List.getElem?_cons_succ] at v0 v1 v2 v3 v4 v5 v6 v7 v8 v9
    have s6 := HS.out.cell 6
    have s7 := HS.out.cell 7
    simp only [List.getElem?_toArray, List.getElem?_cons_zero, List.getElem?_cons_succ] at s6 s7
    by_cases hlt : k < 4
    · have p0 := HA.out.cell 0
      have p1 := HA.out.cell 1
      simp only [List.getElem?_toArray, List.getElem?_cons_zero, List.getElem?_cons_succ] at p0 p1
      have d0 := HB.out.cell 0
      have d1 := HB.out.cell 1
      simp only [List.getElem?_toArray, List.getElem?_cons_zero, List.getElem?_cons_succ] at d0 d1
      go_wp2_with fail
      refine (next_any _ _ _ _ _ _ _ _ _ _ _ _ _ _ _ _ _ _).mono ?_
      rintro e w5 ⟨rfl, hbel⟩
      clear v0 v1 v2 v3 v4 v5 v6 v7 v8 v9 s6 s7 p0 p1 d0 d1
      replace HV := hide (HV.out.below hbel)
      replace HS := hide (HS.out.below hbel)
      replace HA := hide (HA.out.below hbel)
      replace HB := hide (HB.out.below hbel)
      replace HN := hide (HN.out.trans (hbel.mono HN.out.size))
      clear hbel
      obtain ⟨F, hF⟩ : ∃ x, finI false (bit1 b0 false) b1 b2 pe a0_6 a1 pe a0_6 fe = x := ⟨_, rfl⟩
      obtain ⟨R, hR⟩ : ∃ x, finI false (bit1 b0 false) b1 b2 pe a0_6 a1 pr a0_7 fr = x := ⟨_, rfl⟩
      rw [show nextC b0 b1 b2 pe pr a0_6 a0_7 fe fr a1 false false a2_0 a2_1 a3_0 a3_1 = scells false b0 b1 b2 a0_6 a0_7 a0_6 a0_7 F R from by rw [nextC, hF, hR]; rfl]
      clear hF hR
      obtain ⟨w6, hrun, ho6, ha6⟩ := store_obj (P := Try.prog) (ty := 27) (n := 10) (cs := [.bool false, .bool b0, .bool b1, .bool b2, .int .i64 a0_6, .int .u64 a0_7, .int .i64 a0_6, .int .u64 a0_7, .int .i64 F, .int .u64 R]) (by kernel_rfl) rfl rfl (by simp [Value.oneCell']) HV.out.at_
      replace HV := hide (OAt.of ho6)
      replace HS := hide (HS.out.apart ha6 (by omega))
      replace HA := hide (HA.out.apart ha6 (by omega))
      replace HB := hide (HB.out.apart ha6 (by omega))
      replace HN := hide (HN.out.trans (ha6.old _ HN.out.size (by omega)))
      have HW := hide hrun
      clear hrun ho6 ha6
      have v6 := HV.out.cell 6
      have v7 := HV.out.cell 7
      simp only [List.getElem?_toArray, List.getElem?_cons_zero, List.getElem?_cons_succ] at v6 v7
      have s6 := HS.out.cell 6
      have s7 := HS.out.cell 7
      simp only [List.getElem?_toArray, List.getElem?_cons_zero, List.getElem?_cons_succ] at s6 s7
      go_wp2_with (refine wpList_store_at 27 (.tmp 9) (.tmp 22) rfl rfl _ _ rfl rfl w6 HW.out ?_)
      go_roundw
      case rel => exact ⟨k + 1, false, b0, b1, b2, a0_6, a0_7, F, R, by omega, by go_num, hide ⟨fun _ => ⟨rfl, rfl, rfl⟩, fun h => (J1.out (by omega)).1, fun h => J2.out (by omega), fun h => J3.out (by omega), HV.out, HS.out, HA.out, HB.out, HN.out⟩⟩
      case measure => simp [intOf]; omega
    · obtain rfl : k = 4 := by omega
      obtain ⟨rfl, rfl, rfl⟩ := J1.out (by omega)
      obtain rfl := J2.out (by omega)
      obtain rfl := J3.out (by omega)
      obtain rfl := J4.out (by omega)
      have heq := eq4w
      go_wp2
      go_ret
      exact ⟨rfl, HN.out⟩

set_option maxRecDepth 100000 in
theorem lifted (os : Os) (started : os.Started) (H : Type) (enc : TypeId × Value → H) :
    ReturnsInHanded {} Try.checked os 5 .any (Rows.justifyNoneSpec.pre6 enc Try.prog Try.f5 Rows.justifyNoneRow.domain false) (Rows.justifyNoneSpec.post enc Try.prog Try.f5 false true false false) := by
  refine returnsInHanded_of_change (C := Try.checked) own started (by kernel_rfl) Try.func5
    (ChangeSpec.witness6 (enc := enc) (C := Try.checked) false ⟨#[], #[.agg #[.bool false, .bool false, .bool false, .bool false, .int .i64 0, .int .u64 0, .int .i64 0, .int .u64 0, .int .i64 0, .int .u64 0], .int .i64 0, .agg #[.int .i64 0, .int .u64 0], .agg #[.int .i64 0, .int .u64 0]], []⟩ 8 (by kernel_rfl) (by kernel_rfl) (by kernel_rfl) (by kernel_rfl)) ?_
  intro W base args ds gs before hval0 hW hcnd _
  have hval : ∀ (j : Nat) t v, Try.f5.params[j]? = some t → args[j]? = some v → Value.okWide Try.prog W .any base t v := hval0
  have hW' := hW
  obtain ⟨p, q, hA0, hV, rfl, hfz, hnd⟩ := hW
  have hA : DataW.TrodAll enc Try.prog W 0 (fun _ => true) true Try.f5.params.toList args.toList ds p := hA0
  rw [Try.params5] at hA hval
  obtain ⟨v0, vs0, d0, ds0, p0, q0, hargs, rfl, rfl, h0, r0⟩ := trodAll_cons hA
  obtain ⟨v1, vs1, d1, ds1, p1, q1, rfl, rfl, rfl, h1, r1⟩ := trodAll_cons r0
  obtain ⟨v2, vs2, d2, ds2, p2, q2, rfl, rfl, rfl, h2, r2⟩ := trodAll_cons r1
  obtain ⟨v3, vs3, d3, ds3, p3, q3, rfl, rfl, rfl, h3, r3⟩ := trodAll_cons r2
  obtain ⟨rfl, rfl, rfl⟩ := trodAll_nil r3
  obtain rfl : args = #[v0, v1, v2, v3] := by cases args; simp_all
  obtain ⟨rfl, rfl⟩ := trodVars_none hV
  obtain ⟨cs0, rfl, sz0⟩ := okWide_struct Try.underlying27 (hval 0 27 v0 rfl rfl)
  rw [cells27] at sz0
  obtain ⟨l0⟩ := cs0
  obtain ⟨c0_0, c0_1, c0_2, c0_3, c0_4, c0_5, c0_6, c0_7, c0_8, c0_9, rfl⟩ := list10 (show l0.length = 10 from sz0)
  clear sz0
  have k0 := h0
  have lt0 : ∀ x ∈ p0, x.block < W.heap.size := by obtain ⟨m, hm⟩ := k0; exact DataW.trod_lt m _ _ _ hm
  obtain ⟨fuel0, hf0⟩ := h0
  simp only [Value.cells] at hf0
  obtain ⟨xs0_0t27, n0_0t27, _, hx0_0t27, _, hlen0_0t27, hf0_0t27⟩ := DataW.trod_struct Try.underlying27 hf0
  obtain ⟨y0_0t27_0, y0_0t27_1, y0_0t27_2, y0_0t27_3, rfl⟩ := list4 (show xs0_0t27.length = 4 from hlen0_0t27)
  have hy0_0t27_0 : DataW.trod enc Try.prog W 0 (fun _ => true) true n0_0t27 22 [c0_0, c0_1, c0_2, c0_3] = some y0_0t27_0 := by simpa [Value.cells, cells3, cells4, cells22, cells23, cells25, cells27] using hf0_0t27 0 _ rfl
  have hy0_0t27_1 : DataW.trod enc Try.prog W 0 (fun _ => true) true n0_0t27 25 [c0_4, c0_5] = some y0_0t27_1 := by simpa [Value.cells, cells3, cells4, cells22, cells23, cells25, cells27] using hf0_0t27 1 _ rfl
  have hy0_0t27_2 : DataW.trod enc Try.prog W 0 (fun _ => true) true n0_0t27 25 [c0_6, c0_7] = some y0_0t27_2 := by simpa [Value.cells, cells3, cells4, cells22, cells23, cells25, cells27] using hf0_0t27 2 _ rfl
  have hy0_0t27_3 : DataW.trod enc Try.prog W 0 (fun _ => true) true n0_0t27 25 [c0_8, c0_9] = some y0_0t27_3 := by simpa [Value.cells, cells3, cells4, cells22, cells23, cells25, cells27] using hf0_0t27 3 _ rfl
  obtain ⟨xs0_0t22, n0_0t22, _, hx0_0t22, _, hlen0_0t22, hf0_0t22⟩ := DataW.trod_array Try.underlying22 hy0_0t27_0
  obtain ⟨y0_0t22_0, y0_0t22_1, y0_0t22_2, y0_0t22_3, rfl⟩ := list4 (show xs0_0t22.length = 4 from hlen0_0t22)
  have hy0_0t22_0 : DataW.trod enc Try.prog W 0 (fun _ => true) true n0_0t22 4 [c0_0] = some y0_0t22_0 := by simpa [cells3, cells4, cells22, cells23, cells25, cells27] using hf0_0t22 0 (by decide)
  have hy0_0t22_1 : DataW.trod enc Try.prog W 0 (fun _ => true) true n0_0t22 4 [c0_1] = some y0_0t22_1 := by simpa [cells3, cells4, cells22, cells23, cells25, cells27] using hf0_0t22 1 (by decide)
  have hy0_0t22_2 : DataW.trod enc Try.prog W 0 (fun _ => true) true n0_0t22 4 [c0_2] = some y0_0t22_2 := by simpa [cells3, cells4, cells22, cells23, cells25, cells27] using hf0_0t22 2 (by decide)
  have hy0_0t22_3 : DataW.trod enc Try.prog W 0 (fun _ => true) true n0_0t22 4 [c0_3] = some y0_0t22_3 := by simpa [cells3, cells4, cells22, cells23, cells25, cells27] using hf0_0t22 3 (by decide)
  obtain ⟨a0_0, e0_0, x0_0⟩ := DataW.trod_bool Try.underlying4 hy0_0t22_0
  simp at e0_0
  subst e0_0
  obtain ⟨a0_1, e0_1, x0_1⟩ := DataW.trod_bool Try.underlying4 hy0_0t22_1
  simp at e0_1
  subst e0_1
  obtain ⟨a0_2, e0_2, x0_2⟩ := DataW.trod_bool Try.underlying4 hy0_0t22_2
  simp at e0_2
  subst e0_2
  obtain ⟨a0_3, e0_3, x0_3⟩ := DataW.trod_bool Try.underlying4 hy0_0t22_3
  simp at e0_3
  subst e0_3
  obtain ⟨xs0_4t25, n0_4t25, _, hx0_4t25, _, hlen0_4t25, hf0_4t25⟩ := DataW.trod_struct Try.underlying25 hy0_0t27_1
  obtain ⟨y0_4t25_0, y0_4t25_1, rfl⟩ := list2 (show xs0_4t25.length = 2 from hlen0_4t25)
  have hy0_4t25_0 : DataW.trod enc Try.prog W 0 (fun _ => true) true n0_4t25 3 [c0_4] = some y0_4t25_0 := by simpa [Value.cells, cells3, cells4, cells22, cells23, cells25, cells27] using hf0_4t25 0 _ rfl
  have hy0_4t25_1 : DataW.trod enc Try.prog W 0 (fun _ => true) true n0_4t25 23 [c0_5] = some y0_4t25_1 := by simpa [Value.cells, cells3, cells4, cells22, cells23, cells25, cells27] using hf0_4t25 1 _ rfl
  obtain ⟨a0_4, e0_4, x0_4, w0_4⟩ := DataW.trod_int Try.underlying3 hy0_4t25_0
  simp at e0_4
  subst e0_4
  obtain ⟨a0_5, e0_5, x0_5, w0_5⟩ := DataW.trod_int Try.underlying23 hy0_4t25_1
  simp at e0_5
  subst e0_5
  obtain ⟨xs0_6t25, n0_6t25, _, hx0_6t25, _, hlen0_6t25, hf0_6t25⟩ := DataW.trod_struct Try.underlying25 hy0_0t27_2
  obtain ⟨y0_6t25_0, y0_6t25_1, rfl⟩ := list2 (show xs0_6t25.length = 2 from hlen0_6t25)
  have hy0_6t25_0 : DataW.trod enc Try.prog W 0 (fun _ => true) true n0_6t25 3 [c0_6] = some y0_6t25_0 := by simpa [Value.cells, cells3, cells4, cells22, cells23, cells25, cells27] using hf0_6t25 0 _ rfl
  have hy0_6t25_1 : DataW.trod enc Try.prog W 0 (fun _ => true) true n0_6t25 23 [c0_7] = some y0_6t25_1 := by simpa [Value.cells, cells3, cells4, cells22, cells23, cells25, cells27] using hf0_6t25 1 _ rfl
  obtain ⟨a0_6, e0_6, x0_6, w0_6⟩ := DataW.trod_int Try.underlying3 hy0_6t25_0
  simp at e0_6
  subst e0_6
  obtain ⟨a0_7, e0_7, x0_7, w0_7⟩ := DataW.trod_int Try.underlying23 hy0_6t25_1
  simp at e0_7
  subst e0_7
  obtain ⟨xs0_8t25, n0_8t25, _, hx0_8t25, _, hlen0_8t25, hf0_8t25⟩ := DataW.trod_struct Try.underlying25 hy0_0t27_3
  obtain ⟨y0_8t25_0, y0_8t25_1, rfl⟩ := list2 (show xs0_8t25.length = 2 from hlen0_8t25)
  have hy0_8t25_0 : DataW.trod enc Try.prog W 0 (fun _ => true) true n0_8t25 3 [c0_8] = some y0_8t25_0 := by simpa [Value.cells, cells3, cells4, cells22, cells23, cells25, cells27] using hf0_8t25 0 _ rfl
  have hy0_8t25_1 : DataW.trod enc Try.prog W 0 (fun _ => true) true n0_8t25 23 [c0_9] = some y0_8t25_1 := by simpa [Value.cells, cells3, cells4, cells22, cells23, cells25, cells27] using hf0_8t25 1 _ rfl
  obtain ⟨a0_8, e0_8, x0_8, w0_8⟩ := DataW.trod_int Try.underlying3 hy0_8t25_0
  simp at e0_8
  subst e0_8
  obtain ⟨a0_9, e0_9, x0_9, w0_9⟩ := DataW.trod_int Try.underlying23 hy0_8t25_1
  simp at e0_9
  subst e0_9
  obtain ⟨a1, rfl, rfl, rfl, w1⟩ := open_int Try.underlying3 (hval 1 3 v1 rfl rfl) h1
  obtain ⟨cs2, rfl, sz2⟩ := okWide_struct Try.underlying25 (hval 2 25 v2 rfl rfl)
  rw [cells25] at sz2
  obtain ⟨l2⟩ := cs2
  obtain ⟨c2_0, c2_1, rfl⟩ := list2 (show l2.length = 2 from sz2)
  clear sz2
  have k2 := h2
  have lt2 : ∀ x ∈ p2, x.block < W.heap.size := by obtain ⟨m, hm⟩ := k2; exact DataW.trod_lt m _ _ _ hm
  obtain ⟨fuel2, hf2⟩ := h2
  simp only [Value.cells] at hf2
  obtain ⟨xs2_0t25, n2_0t25, _, hx2_0t25, _, hlen2_0t25, hf2_0t25⟩ := DataW.trod_struct Try.underlying25 hf2
  obtain ⟨y2_0t25_0, y2_0t25_1, rfl⟩ := list2 (show xs2_0t25.length = 2 from hlen2_0t25)
  have hy2_0t25_0 : DataW.trod enc Try.prog W 0 (fun _ => true) true n2_0t25 3 [c2_0] = some y2_0t25_0 := by simpa [Value.cells, cells3, cells4, cells22, cells23, cells25, cells27] using hf2_0t25 0 _ rfl
  have hy2_0t25_1 : DataW.trod enc Try.prog W 0 (fun _ => true) true n2_0t25 23 [c2_1] = some y2_0t25_1 := by simpa [Value.cells, cells3, cells4, cells22, cells23, cells25, cells27] using hf2_0t25 1 _ rfl
  obtain ⟨a2_0, e2_0, x2_0, w2_0⟩ := DataW.trod_int Try.underlying3 hy2_0t25_0
  simp at e2_0
  subst e2_0
  obtain ⟨a2_1, e2_1, x2_1, w2_1⟩ := DataW.trod_int Try.underlying23 hy2_0t25_1
  simp at e2_1
  subst e2_1
  obtain ⟨cs3, rfl, sz3⟩ := okWide_struct Try.underlying25 (hval 3 25 v3 rfl rfl)
  rw [cells25] at sz3
  obtain ⟨l3⟩ := cs3
  obtain ⟨c3_0, c3_1, rfl⟩ := list2 (show l3.length = 2 from sz3)
  clear sz3
  have k3 := h3
  have lt3 : ∀ x ∈ p3, x.block < W.heap.size := by obtain ⟨m, hm⟩ := k3; exact DataW.trod_lt m _ _ _ hm
  obtain ⟨fuel3, hf3⟩ := h3
  simp only [Value.cells] at hf3
  obtain ⟨xs3_0t25, n3_0t25, _, hx3_0t25, _, hlen3_0t25, hf3_0t25⟩ := DataW.trod_struct Try.underlying25 hf3
  obtain ⟨y3_0t25_0, y3_0t25_1, rfl⟩ := list2 (show xs3_0t25.length = 2 from hlen3_0t25)
  have hy3_0t25_0 : DataW.trod enc Try.prog W 0 (fun _ => true) true n3_0t25 3 [c3_0] = some y3_0t25_0 := by simpa [Value.cells, cells3, cells4, cells22, cells23, cells25, cells27] using hf3_0t25 0 _ rfl
  have hy3_0t25_1 : DataW.trod enc Try.prog W 0 (fun _ => true) true n3_0t25 23 [c3_1] = some y3_0t25_1 := by simpa [Value.cells, cells3, cells4, cells22, cells23, cells25, cells27] using hf3_0t25 1 _ rfl
  obtain ⟨a3_0, e3_0, x3_0, w3_0⟩ := DataW.trod_int Try.underlying3 hy3_0t25_0
  simp at e3_0
  subst e3_0
  obtain ⟨a3_1, e3_1, x3_1, w3_1⟩ := DataW.trod_int Try.underlying23 hy3_0t25_1
  simp at e3_1
  subst e3_1
  clear hA0 hval0
  refine (walk a0_0 a0_1 a0_2 a0_3 a0_4 a0_5 a0_6 a0_7 a0_8 a0_9 a1 a2_0 a2_1 a3_0 a3_1 W w0_4 w0_5 w0_6 w0_7 w0_8 w0_9 w1 w2_0 w2_1 w3_0 w3_1).mono fun e W' ⟨he, bel⟩ => ?_
  subst he
  exact ⟨_, rfl, _, _, _, [], _, [], hW', trodAll_mk1 (shut_bool Try.underlying4 _), (trodAll_cons_mk (Below.trod laidOut (by kernel_rfl) (of_decide_eq_true (by kernel_rfl)) k0 bel lt0) (trodAll_cons_mk (shut_int Try.underlying3 w1) (trodAll_cons_mk (Below.trod laidOut (by kernel_rfl) (of_decide_eq_true (by kernel_rfl)) k2 bel lt2) (trodAll_cons_mk (Below.trod laidOut (by kernel_rfl) (of_decide_eq_true (by kernel_rfl)) k3 bel lt3) trodAll_mk0)))), rfl, bel.frame _, fun h => by cases h⟩

theorem over : Rows.justifyNoneRow.holds Try.pinned (OpenSpec.ofChange Rows.justifyNoneSpec) :=
  OpenClaim.holds_of_wide 5 Try.f5 rfl rfl rfl rfl rfl rfl rfl ⟨rfl, rfl, rfl, rfl, rfl⟩ rfl rfl rfl rfl rfl (by kernel_rfl) Try.func5 (by kernel_rfl)
    (of_decide_eq_true (by kernel_rfl)) (by unfold Func.isWrapper; first | (rw [if_pos (by decide +kernel)]; kernel_rfl) | (rw [if_neg (by decide +kernel)]; exact ⟨rfl, rfl⟩))
    (fun os started H enc _ => lifted os started H enc)

theorem proved : Rows.JustifyNoneSaid := over
end Go.Proofs.Ytcajinccnnmlgaa.justifyNone

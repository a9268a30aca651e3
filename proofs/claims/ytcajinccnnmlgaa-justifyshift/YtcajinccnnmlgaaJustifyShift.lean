/-
  which roots checkpoints have decides nothing: with others all epochs come out the same (JustifyShift is true of every input).
-/
import Derived.Test.YtcajinccnnmlgaaRows

import Derived.WalkKit

import Derived.Below

import Derived.ProofKit

import Derived.OpenShut

import Derived.ShutString

import Derived.ChangeOld

import Derived.Test.YtcajinccnnmlgaaJAwake

import Derived.Test.YtcajinccnnmlgaaJEq

namespace Go.Proofs.Ytcajinccnnmlgaa.justifyShift

open Go.ChangeShapes Go.WideShapes Go.ChangeAt Go.RowKit

set_option linter.unusedVariables false

theorem own : ownKnob Try.prog.godebug = none := by kernel_rfl
theorem laidOut : laidOutB Try.prog = true := by kernel_rfl
theorem cells3 : Try.prog.cellsOf 3 = 1 := by kernel_rfl
theorem cells4 : Try.prog.cellsOf 4 = 1 := by kernel_rfl
theorem cells22 : Try.prog.cellsOf 22 = 4 := by kernel_rfl
theorem cells23 : Try.prog.cellsOf 23 = 1 := by kernel_rfl
theorem cells25 : Try.prog.cellsOf 25 = 2 := by kernel_rfl
theorem cells27 : Try.prog.cellsOf 27 = 10 := by kernel_rfl
theorem list2 {α : Type _} {l : List α} (h : l.length = 2) : ∃ x0 x1, l = [x0, x1] := by
  match l, h with
  | [x0, x1], _ => exact ⟨x0, x1, rfl⟩
theorem list4 {α : Type _} {l : List α} (h : l.length = 4) : ∃ x0 x1 x2 x3, l = [x0, x1, x2, x3] := by
  match l, h with
  | [x0, x1, x2, x3], _ => exact ⟨x0, x1, x2, x3, rfl⟩
theorem list10 {α : Type _} {l : List α} (h : l.length = 10) : ∃ x0 x1 x2 x3 x4 x5 x6 x7 x8 x9, l = [x0, x1, x2, x3, x4, x5, x6, x7, x8, x9] := by
  match l, h with
  | [x0, x1, x2, x3, x4, x5, x6, x7, x8, x9], _ => exact ⟨x0, x1, x2, x3, x4, x5, x6, x7, x8, x9, rfl⟩

set_option maxHeartbeats 4000000 in
set_option maxRecDepth 100000 in
theorem walk (a0_0 : Bool) (a0_1 : Bool) (a0_2 : Bool) (a0_3 : Bool) (a0_4 : Int) (a0_5 : Int) (a0_6 : Int) (a0_7 : Int) (a0_8 : Int) (a0_9 : Int) (a1 : Int) (a2 : Bool) (a3 : Bool) (a4 : Int) (w : World) (w0_4 : (Lit.int .i64 a0_4).wf = true) (w0_5 : (Lit.int .u64 a0_5).wf = true) (w0_6 : (Lit.int .i64 a0_6).wf = true) (w0_7 : (Lit.int .u64 a0_7).wf = true) (w0_8 : (Lit.int .i64 a0_8).wf = true) (w0_9 : (Lit.int .u64 a0_9).wf = true) (w1 : (Lit.int .i64 a1).wf = true) (w4 : (Lit.int .u64 a4).wf = true) :
    Calls Try.prog 8 #[.agg #[.bool a0_0, .bool a0_1, .bool a0_2, .bool a0_3, .int .i64 a0_4, .int .u64 a0_5, .int .i64 a0_6, .int .u64 a0_7, .int .i64 a0_8, .int .u64 a0_9], .int .i64 a1, .bool a2, .bool a3, .int .u64 a4] w fun e w' => e = .returned (.bool true) ∧ Below w.heap.size w w' := by
  have HS := hide (OAt.new w (.cells (scells a0_0 a0_1 a0_2 a0_3 a0_4 a0_5 a0_6 a0_7 a0_8 a0_9) 27))
  have HN := hide ((Below.refl _ w).alloc (Nat.le_refl _) (.cells (scells a0_0 a0_1 a0_2 a0_3 a0_4 a0_5 a0_6 a0_7 a0_8 a0_9) 27))
  clear w0_4 w0_5 w0_6 w0_7 w0_8 w0_9 w1 w4
  obtain ⟨B1, hB1⟩ : ∃ x, Hid (bit1 a0_0 a2 = x) := ⟨_, rfl⟩
  obtain ⟨e1, he1⟩ : ∃ x, wrap64 (a1 - 1) = x := ⟨_, rfl⟩
  obtain ⟨r1, hr1⟩ : ∃ x, IntKind.u64.wrap (a4 + 1) = x := ⟨_, rfl⟩
  obtain ⟨r2, hr2⟩ : ∃ x, IntKind.u64.wrap (a4 + 2) = x := ⟨_, rfl⟩
  obtain ⟨C, hC⟩ : ∃ x, Hid (curI a2 a3 a0_6 e1 a1 = x) := ⟨_, rfl⟩
  obtain ⟨D, hD⟩ : ∃ x, Hid (curI a2 a3 a0_7 0 0 = x) := ⟨_, rfl⟩
  obtain ⟨E, hE⟩ : ∃ x, Hid (curI a2 a3 r1 a4 a4 = x) := ⟨_, rfl⟩
  obtain ⟨F, hF⟩ : ∃ x, Hid (finI a3 B1 a0_1 a0_2 a0_4 a0_6 a1 a0_4 a0_6 a0_8 = x) := ⟨_, rfl⟩
  obtain ⟨R, hR⟩ : ∃ x, Hid (finI a3 B1 a0_1 a0_2 a0_4 a0_6 a1 a0_5 a0_7 a0_9 = x) := ⟨_, rfl⟩
  obtain ⟨Q, hQ⟩ : ∃ x, Hid (finI a3 B1 a0_1 a0_2 a0_4 a0_6 a1 a4 r1 r2 = x) := ⟨_, rfl⟩
  have HE1 : Hid (nextC a0_0 a0_1 a0_2 a0_4 a0_5 a0_6 a0_7 a0_8 a0_9 a1 a2 a3 e1 0 a1 0 = scells a3 B1 a0_1 a0_2 a0_6 a0_7 C D F R) := by
    show nextC _ _ _ _ _ _ _ _ _ _ _ _ _ _ _ _ = _
    rw [nextC, hB1.out, hC.out, hD.out, hF.out, hR.out]
  have HE2 : Hid (nextC a0_0 a0_1 a0_2 a0_4 a4 a0_6 r1 a0_8 r2 a1 a2 a3 e1 a4 a1 a4 = scells a3 B1 a0_1 a0_2 a0_6 r1 C E F Q) := by
    show nextC _ _ _ _ _ _ _ _ _ _ _ _ _ _ _ _ = _
    rw [nextC, hB1.out, hC.out, hE.out, hF.out, hQ.out]
  go_enter Try.func8, Try.ntmps8
  go_wp2_with fail
  refine (awake_any _).mono ?_
  rintro e w1 ⟨rfl, hbel⟩
  replace HS := hide (HS.out.below hbel)
  replace HN := hide (HN.out.trans (hbel.mono HN.out.size))
  clear hbel
  have s0 := HS.out.cell 0
  have s1 := HS.out.cell 1
  have s2 := HS.out.cell 2
  have s3 := HS.out.cell 3
  have s4 := HS.out.cell 4
  have s5 := HS.out.cell 5
  have s6 := HS.out.cell 6
  have s7 := HS.out.cell 7
  have s8 := HS.out.cell 8
  have s9 := HS.out.cell 9
  simp only [List.getElem?_toArray, List.getElem?_cons_zero, List.getElem?_cons_succ] at s0 s1 s2 s3 s4 s5 s6 s7 s8 s9
  go_wp2_with fail
  refine (next_any _ _ _ _ _ _ _ _ _ _ _ _ _ _ _ _ _ _).mono ?_
  rintro e w2 ⟨rfl, hbel⟩
  rw [HE1.out]
  clear HE1 s0 s1 s2 s3 s4 s5 s6 s7 s8 s9
  replace HS := hide (HS.out.below hbel)
  replace HN := hide (HN.out.trans (hbel.mono HN.out.size))
  clear hbel
  have HA := hide (OAt.new w2 (.cells (scells a3 B1 a0_1 a0_2 a0_6 a0_7 C D F R) 27))
  replace HS := hide (HS.out.alloc (.cells (scells a3 B1 a0_1 a0_2 a0_6 a0_7 C D F R) 27))
  replace HN := hide (HN.out.alloc HN.out.size (.cells (scells a3 B1 a0_1 a0_2 a0_6 a0_7 C D F R) 27))
  go_upto_region 4 with fail
  generalize hg : w2.heap.size = g at HA ⊢
  generalize w2.alloc (.cells (scells a3 B1 a0_1 a0_2 a0_6 a0_7 C D F R) 27) = w3 at HS HA HN ⊢
  clear hg
  have s0 := HS.out.cell 0
  have s1 := HS.out.cell 1
  have s2 := HS.out.cell 2
  have s3 := HS.out.cell 3
  have s4 := HS.out.cell 4
  have s5 := HS.out.cell 5
  have s6 := HS.out.cell 6
  have s7 := HS.out.cell 7
  have s8 := HS.out.cell 8
  have s9 := HS.out.cell 9
  simp only [List.getElem?_toArray, List.getElem?_cons_zero, List.getElem?_cons_succ] at s0 s1 s2 s3 s4 s5 s6 s7 s8 s9
  go_wp2_with fail
  refine (next_any _ _ _ _ _ _ _ _ _ _ _ _ _ _ _ _ _ _).mono ?_
  rintro e w4 ⟨rfl, hbel⟩
  rw [HE2.out]
  clear HE2 s0 s1 s2 s3 s4 s5 s6 s7 s8 s9
  replace HS := hide (HS.out.alloc (.cells (scells a0_0 a0_1 a0_2 a0_3 a0_4 a4 a0_6 r1 a0_8 r2) 27))
  replace HA := hide (HA.out.alloc (.cells (scells a0_0 a0_1 a0_2 a0_3 a0_4 a4 a0_6 r1 a0_8 r2) 27))
  replace HN := hide (HN.out.alloc HN.out.size (.cells (scells a0_0 a0_1 a0_2 a0_3 a0_4 a4 a0_6 r1 a0_8 r2) 27))
  replace HS := hide (HS.out.below hbel)
  replace HA := hide (HA.out.below hbel)
  replace HN := hide (HN.out.trans (hbel.mono HN.out.size))
  clear hbel
  have n0 : ∀ o, (w4.alloc o).cell? ⟨g, 0, none⟩ = some (.bool a3) := fun o => (HA.out.alloc o).cell 0
  have n1 : ∀ o, (w4.alloc o).cell? ⟨g, 1, none⟩ = some (.bool B1) := fun o => (HA.out.alloc o).cell 1
  have n2 : ∀ o, (w4.alloc o).cell? ⟨g, 2, none⟩ = some (.bool a0_1) := fun o => (HA.out.alloc o).cell 2
  have n3 : ∀ o, (w4.alloc o).cell? ⟨g, 3, none⟩ = some (.bool a0_2) := fun o => (HA.out.alloc o).cell 3
  have n4 : ∀ o, (w4.alloc o).cell? ⟨g, 4, none⟩ = some (.int .i64 a0_6) := fun o => (HA.out.alloc o).cell 4
  have n5 : ∀ o, (w4.alloc o).cell? ⟨g, 5, none⟩ = some (.int .u64 a0_7) := fun o => (HA.out.alloc o).cell 5
  have n6 : ∀ o, (w4.alloc o).cell? ⟨g, 6, none⟩ = some (.int .i64 C) := fun o => (HA.out.alloc o).cell 6
  have n7 : ∀ o, (w4.alloc o).cell? ⟨g, 7, none⟩ = some (.int .u64 D) := fun o => (HA.out.alloc o).cell 7
  have n8 : ∀ o, (w4.alloc o).cell? ⟨g, 8, none⟩ = some (.int .i64 F) := fun o => (HA.out.alloc o).cell 8
  have n9 : ∀ o, (w4.alloc o).cell? ⟨g, 9, none⟩ = some (.int .u64 R) := fun o => (HA.out.alloc o).cell 9
  have heq := eq4w
  go_wp2
  go_ret
  exact ⟨rfl, HN.out.alloc HN.out.size _⟩

set_option maxRecDepth 100000 in
theorem lifted (os : Os) (started : os.Started) (H : Type) (enc : TypeId × Value → H) :
    ReturnsInHanded {} Try.checked os 8 .any (Rows.justifyShiftSpec.pre6 enc Try.prog Try.f8 Rows.justifyShiftRow.domain false) (Rows.justifyShiftSpec.post enc Try.prog Try.f8 false true false false) := by
  refine returnsInHanded_of_change (C := Try.checked) own started (by kernel_rfl) Try.func8
    (ChangeSpec.witness6 (enc := enc) (C := Try.checked) false ⟨#[], #[.agg #[.bool false, .bool false, .bool false, .bool false, .int .i64 0, .int .u64 0, .int .i64 0, .int .u64 0, .int .i64 0, .int .u64 0], .int .i64 0, .bool false, .bool false, .int .u64 0], []⟩ 8 (by kernel_rfl) (by kernel_rfl) (by kernel_rfl) (by kernel_rfl)) ?_
  intro W base args ds gs before hval0 hW hcnd _
  have hval : ∀ (j : Nat) t v, Try.f8.params[j]? = some t → args[j]? = some v → Value.okWide Try.prog W .any base t v := hval0
  have hW' := hW
  obtain ⟨p, q, hA0, hV, rfl, hfz, hnd⟩ := hW
  have hA : DataW.TrodAll enc Try.prog W 0 (fun _ => true) true Try.f8.params.toList args.toList ds p := hA0
  rw [Try.params8] at hA hval
  obtain ⟨v0, vs0, d0, ds0, p0, q0, hargs, rfl, rfl, h0, r0⟩ := trodAll_cons hA
  obtain ⟨v1, vs1, d1, ds1, p1, q1, rfl, rfl, rfl, h1, r1⟩ := trodAll_cons r0
  obtain ⟨v2, vs2, d2, ds2, p2, q2, rfl, rfl, rfl, h2, r2⟩ := trodAll_cons r1
  obtain ⟨v3, vs3, d3, ds3, p3, q3, rfl, rfl, rfl, h3, r3⟩ := trodAll_cons r2
  obtain ⟨v4, vs4, d4, ds4, p4, q4, rfl, rfl, rfl, h4, r4⟩ := trodAll_cons r3
  obtain ⟨rfl, rfl, rfl⟩ := trodAll_nil r4
  obtain rfl : args = #[v0, v1, v2, v3, v4] := by cases args; simp_all
  obtain ⟨rfl, rfl⟩ := trodVars_none hV
  obtain ⟨cs0, rfl, sz0⟩ := okWide_struct Try.underlying27 (hval 0 27 v0 rfl rfl)
  rw [cells27] at sz0
  obtain ⟨l0⟩ := cs0
  obtain ⟨c0_0, c0_1, c0_2, c0_3, c0_4, c0_5, c0_6, c0_7, c0_8, c0_9, rfl⟩ := list10 (show l0.length = 10 from sz0)
  clear sz0
  have k0 := h0
  have lt0 : ∀ x ∈ p0, x.block < W.heap.size := by obtain ⟨m, hm⟩ := k0; exact DataW.trod_lt m _ _ _ hm
  obtain ⟨fuel0, hf0⟩ := h0
  simp only [Value.cells] at hf0
  obtain ⟨xs0_0t27, n0_0t27, _, hx0_0t27, _, hlen0_0t27, hf0_0t27⟩ := DataW.trod_struct Try.underlying27 hf0
  obtain ⟨y0_0t27_0, y0_0t27_1, y0_0t27_2, y0_0t27_3, rfl⟩ := list4 (show xs0_0t27.length = 4 from hlen0_0t27)
  have hy0_0t27_0 : DataW.trod enc Try.prog W 0 (fun _ => true) true n0_0t27 22 [c0_0, c0_1, c0_2, c0_3] = some y0_0t27_0 := by simpa [Value.cells, cells3, cells4, cells22, cells23, cells25, cells27] using hf0_0t27 0 _ rfl
  have hy0_0t27_1 : DataW.trod enc Try.prog W 0 (fun _ => true) true n0_0t27 25 [c0_4, c0_5] = some y0_0t27_1 := by simpa [Value.cells, cells3, cells4, cells22, cells23, cells25, cells27] using hf0_0t27 1 _ rfl
  have hy0_0t27_2 : DataW.trod enc Try.prog W 0 (fun _ => true) true n0_0t27 25 [c0_6, c0_7] = some y0_0t27_2 := by simpa [Value.cells, cells3, cells4, cells22, cells23, cells25, cells27] using hf0_0t27 2 _ rfl
  have hy0_0t27_3 : DataW.trod enc Try.prog W 0 (fun _ => true) true n0_0t27 25 [c0_8, c0_9] = some y0_0t27_3 := by simpa [Value.cells, cells3, cells4, cells22, cells23, cells25, cells27] using hf0_0t27 3 _ rfl
  obtain ⟨xs0_0t22, n0_0t22, _, hx0_0t22, _, hlen0_0t22, hf0_0t22⟩ := DataW.trod_array Try.underlying22 hy0_0t27_0
  obtain ⟨y0_0t22_0, y0_0t22_1, y0_0t22_2, y0_0t22_3, rfl⟩ := list4 (show xs0_0t22.length = 4 from hlen0_0t22)
  have hy0_0t22_0 : DataW.trod enc Try.prog W 0 (fun _ => true) true n0_0t22 4 [c0_0] = some y0_0t22_0 := by simpa [cells3, cells4, cells22, cells23, cells25, cells27] using hf0_0t22 0 (by decide)
  have hy0_0t22_1 : DataW.trod enc Try.prog W 0 (fun _ => true) true n0_0t22 4 [c0_1] = some y0_0t22_1 := by simpa [cells3, cells4, cells22, cells23, cells25, cells27] using hf0_0t22 1 (by decide)
  have hy0_0t22_2 : DataW.trod enc Try.prog W 0 (fun _ => true) true n0_0t22 4 [c0_2] = some y0_0t22_2 := by simpa [cells3, cells4, cells22, cells23, cells25, cells27] using hf0_0t22 2 (by decide)
  have hy0_0t22_3 : DataW.trod enc Try.prog W 0 (fun _ => true) true n0_0t22 4 [c0_3] = some y0_0t22_3 := by simpa [cells3, cells4, cells22, cells23, cells25, cells27] using hf0_0t22 3 (by decide)
  obtain ⟨a0_0, e0_0, x0_0⟩ := DataW.trod_bool Try.underlying4 hy0_0t22_0
  simp at e0_0
  subst e0_0
  obtain ⟨a0_1, e0_1, x0_1⟩ := DataW.trod_bool Try.underlying4 hy0_0t22_1
  simp at e0_1
  subst e0_1
  obtain ⟨a0_2, e0_2, x0_2⟩ := DataW.trod_bool Try.underlying4 hy0_0t22_2
  simp at e0_2
  subst e0_2
  obtain ⟨a0_3, e0_3, x0_3⟩ := DataW.trod_bool Try.underlying4 hy0_0t22_3
  simp at e0_3
  subst e0_3
  obtain ⟨xs0_4t25, n0_4t25, _, hx0_4t25, _, hlen0_4t25, hf0_4t25⟩ := DataW.trod_struct Try.underlying25 hy0_0t27_1
  obtain ⟨y0_4t25_0, y0_4t25_1, rfl⟩ := list2 (show xs0_4t25.length = 2 from hlen0_4t25)
  have hy0_4t25_0 : DataW.trod enc Try.prog W 0 (fun _ => true) true n0_4t25 3 [c0_4] = some y0_4t25_0 := by simpa [Value.cells, cells3, cells4, cells22, cells23, cells25, cells27] using hf0_4t25 0 _ rfl
  have hy0_4t25_1 : DataW.trod enc Try.prog W 0 (fun _ => true) true n0_4t25 23 [c0_5] = some y0_4t25_1 := by simpa [Value.cells, cells3, cells4, cells22, cells23, cells25, cells27] using hf0_4t25 1 _ rfl
  obtain ⟨a0_4, e0_4, x0_4, w0_4⟩ := DataW.trod_int Try.underlying3 hy0_4t25_0
  simp at e0_4
  subst e0_4
  obtain ⟨a0_5, e0_5, x0_5, w0_5⟩ := DataW.trod_int Try.underlying23 hy0_4t25_1
  simp at e0_5
  subst e0_5
  obtain ⟨xs0_6t25, n0_6t25, _, hx0_6t25, _, hlen0_6t25, hf0_6t25⟩ := DataW.trod_struct Try.underlying25 hy0_0t27_2
  obtain ⟨y0_6t25_0, y0_6t25_1, rfl⟩ := list2 (show xs0_6t25.length = 2 from hlen0_6t25)
  have hy0_6t25_0 : DataW.trod enc Try.prog W 0 (fun _ => true) true n0_6t25 3 [c0_6] = some y0_6t25_0 := by simpa [Value.cells, cells3, cells4, cells22, cells23, cells25, cells27] using hf0_6t25 0 _ rfl
  have hy0_6t25_1 : DataW.trod enc Try.prog W 0 (fun _ => true) true n0_6t25 23 [c0_7] = some y0_6t25_1 := by simpa [Value.cells, cells3, cells4, cells22, cells23, cells25, cells27] using hf0_6t25 1 _ rfl
  obtain ⟨a0_6, e0_6, x0_6, w0_6⟩ := DataW.trod_int Try.underlying3 hy0_6t25_0
  simp at e0_6
  subst e0_6
  obtain ⟨a0_7, e0_7, x0_7, w0_7⟩ := DataW.trod_int Try.underlying23 hy0_6t25_1
  simp at e0_7
  subst e0_7
  obtain ⟨xs0_8t25, n0_8t25, _, hx0_8t25, _, hlen0_8t25, hf0_8t25⟩ := DataW.trod_struct Try.underlying25 hy0_0t27_3
  obtain ⟨y0_8t25_0, y0_8t25_1, rfl⟩ := list2 (show xs0_8t25.length = 2 from hlen0_8t25)
  have hy0_8t25_0 : DataW.trod enc Try.prog W 0 (fun _ => true) true n0_8t25 3 [c0_8] = some y0_8t25_0 := by simpa [Value.cells, cells3, cells4, cells22, cells23, cells25, cells27] using hf0_8t25 0 _ rfl
  have hy0_8t25_1 : DataW.trod enc Try.prog W 0 (fun _ => true) true n0_8t25 23 [c0_9] = some y0_8t25_1 := by simpa [Value.cells, cells3, cells4, cells22, cells23, cells25, cells27] using hf0_8t25 1 _ rfl
  obtain ⟨a0_8, e0_8, x0_8, w0_8⟩ := DataW.trod_int Try.underlying3 hy0_8t25_0
  simp at e0_8
  subst e0_8
  obtain ⟨a0_9, e0_9, x0_9, w0_9⟩ := DataW.trod_int Try.underlying23 hy0_8t25_1
  simp at e0_9
  subst e0_9
  obtain ⟨a1, rfl, rfl, rfl, w1⟩ := open_int Try.underlying3 (hval 1 3 v1 rfl rfl) h1
  obtain ⟨a2, rfl, rfl, rfl⟩ := open_bool Try.underlying4 (hval 2 4 v2 rfl rfl) h2
  obtain ⟨a3, rfl, rfl, rfl⟩ := open_bool Try.underlying4 (hval 3 4 v3 rfl rfl) h3
  obtain ⟨a4, rfl, rfl, rfl, w4⟩ := open_int Try.underlying23 (hval 4 23 v4 rfl rfl) h4
  clear hA0 hval0
  refine (walk a0_0 a0_1 a0_2 a0_3 a0_4 a0_5 a0_6 a0_7 a0_8 a0_9 a1 a2 a3 a4 W w0_4 w0_5 w0_6 w0_7 w0_8 w0_9 w1 w4).mono fun e W' ⟨he, bel⟩ => ?_
  subst he
  exact ⟨_, rfl, _, _, _, [], _, [], hW', trodAll_mk1 (shut_bool Try.underlying4 _), (trodAll_cons_mk (Below.trod laidOut (by kernel_rfl) (of_decide_eq_true (by kernel_rfl)) k0 bel lt0) (trodAll_cons_mk (shut_int Try.underlying3 w1) (trodAll_cons_mk (shut_bool Try.underlying4 _) (trodAll_cons_mk (shut_bool Try.underlying4 _) (trodAll_cons_mk (shut_int Try.underlying23 w4) trodAll_mk0))))), rfl, bel.frame _, fun h => by cases h⟩

theorem over : Rows.justifyShiftRow.holds Try.pinned (OpenSpec.ofChange Rows.justifyShiftSpec) :=
  OpenClaim.holds_of_wide 8 Try.f8 rfl rfl rfl rfl rfl rfl rfl ⟨rfl, rfl, rfl, rfl, rfl⟩ rfl rfl rfl rfl rfl (by kernel_rfl) Try.func8 (by kernel_rfl)
    (of_decide_eq_true (by kernel_rfl)) (by unfold Func.isWrapper; first | (rw [if_pos (by decide +kernel)]; kernel_rfl) | (rw [if_neg (by decide +kernel)]; exact ⟨rfl, rfl⟩))
    (fun os started H enc _ => lifted os started H enc)

theorem proved : Rows.JustifyShiftSaid := over
end Go.Proofs.Ytcajinccnnmlgaa.justifyShift

/-
  a vote whose target is not of its slot's epoch, or lies ahead of its source, may not be (VoteEpochs is true of every input).
-/
import Derived.Test.YtnofpmdnpfijnaaRows

import Derived.WalkKit

import Derived.Below

import Derived.ProofKit

import Derived.OpenShut

import Derived.ShutString

import Derived.ChangeOld

import Derived.Test.YtnofpmdnpfijnaaVAt

namespace Go.Proofs.Ytnofpmdnpfijnaa.voteEpochs

open Go.ChangeShapes Go.WideShapes Go.ChangeAt Go.RowKit

set_option linter.unusedVariables false

theorem own : ownKnob Try.prog.godebug = none := by kernel_rfl
theorem laidOut : laidOutB Try.prog = true := by kernel_rfl
theorem cells3 : Try.prog.cellsOf 3 = 1 := by kernel_rfl
theorem cells4 : Try.prog.cellsOf 4 = 1 := by kernel_rfl
theorem cells5 : Try.prog.cellsOf 5 = 1 := by kernel_rfl
theorem cells22 : Try.prog.cellsOf 22 = 1 := by kernel_rfl
theorem cells24 : Try.prog.cellsOf 24 = 3 := by kernel_rfl
theorem cells25 : Try.prog.cellsOf 25 = 1 := by kernel_rfl
theorem cells27 : Try.prog.cellsOf 27 = 2 := by kernel_rfl
theorem cells28 : Try.prog.cellsOf 28 = 1 := by kernel_rfl
theorem cells30 : Try.prog.cellsOf 30 = 7 := by kernel_rfl
theorem list2 {α : Type _} {l : List α} (h : l.length = 2) : ∃ x0 x1, l = [x0, x1] := by
  match l, h with
  | [x0, x1], _ => exact ⟨x0, x1, rfl⟩
theorem list3 {α : Type _} {l : List α} (h : l.length = 3) : ∃ x0 x1 x2, l = [x0, x1, x2] := by
  match l, h with
  | [x0, x1, x2], _ => exact ⟨x0, x1, x2, rfl⟩
theorem list5 {α : Type _} {l : List α} (h : l.length = 5) : ∃ x0 x1 x2 x3 x4, l = [x0, x1, x2, x3, x4] := by
  match l, h with
  | [x0, x1, x2, x3, x4], _ => exact ⟨x0, x1, x2, x3, x4, rfl⟩
theorem list7 {α : Type _} {l : List α} (h : l.length = 7) : ∃ x0 x1 x2 x3 x4 x5 x6, l = [x0, x1, x2, x3, x4, x5, x6] := by
  match l, h with
  | [x0, x1, x2, x3, x4, x5, x6], _ => exact ⟨x0, x1, x2, x3, x4, x5, x6, rfl⟩
theorem late_no (S E T slots m : Int) (hT : epo S slots = T) (hm : 0 ≤ m) : timesB S E (T + (1 + m)) slots = false := by
  unfold timesB
  exact decide_eq_false (fun h => by rw [hT] at h; omega)
theorem far_no (S T slots m : Int) (hm : 0 ≤ m) : timesB S (T + 1 + m) T slots = false := by
  unfold timesB
  exact decide_eq_false (fun h => by omega)

set_option maxHeartbeats 1000000 in
theorem walk (a0_0 : Option Addr) (len0_0 cap0_0 : Nat) (z0_0 : List Int) (a0_1 : Int) (a0_2 : Int) (a1_0 : Int) (a1_1 : Int) (a1_2 : Int) (a1_3 : Int) (a1_4 : Int) (a1_5 : Int) (a1_6 : Option Addr) (len1_6 cap1_6 : Nat) (z1_6 : List Int) (a2 : Int) (w : World) (w0_0 : IsRow .u64 w a0_0 len0_0 cap0_0 z0_0) (w0_1 : (Lit.int .i64 a0_1).wf = true) (w0_2 : (Lit.int .i64 a0_2).wf = true) (w1_0 : (Lit.int .i64 a1_0).wf = true) (w1_1 : (Lit.int .u64 a1_1).wf = true) (w1_2 : (Lit.int .i64 a1_2).wf = true) (w1_3 : (Lit.int .u64 a1_3).wf = true) (w1_4 : (Lit.int .i64 a1_4).wf = true) (w1_5 : (Lit.int .u64 a1_5).wf = true) (w1_6 : IsRow .i64 w a1_6 len1_6 cap1_6 z1_6) (w2 : (Lit.int .u8 a2).wf = true) :
    Calls Try.prog 8 #[.agg #[.slice a0_0 len0_0 cap0_0, .int .i64 a0_1, .int .i64 a0_2], .agg #[.int .i64 a1_0, .int .u64 a1_1, .int .i64 a1_2, .int .u64 a1_3, .int .i64 a1_4, .int .u64 a1_5, .slice a1_6 len1_6 cap1_6], .int .u8 a2] w fun e w' => e = .returned (.bool true) ∧ Below w.heap.size w w' := by
  have hB := w0_0.row
  have hu := w0_0.u64
  have hs := wf_i64 w0_1
  have hb := wf_i64 w0_2
  have hZ := w1_6.row
  have hv0 := wf_i64 w1_0
  have hv1 := wf_u64 w1_1
  have hv2 := wf_i64 w1_2
  have hv3 := wf_u64 w1_3
  have hv5 := wf_u64 w1_5
  have hm := wf8 w2
  clear w0_0 w0_1 w0_2 w1_0 w1_1 w1_2 w1_3 w1_4 w1_5 w1_6 w2
  generalize z0_0.take len0_0 = bs at *
  generalize z1_6.take len1_6 = zs at *
  have HU := hide hu
  have HB := hide ((hB.alloc (cfg a0_0 len0_0 cap0_0 a0_1 a0_2)).alloc (vobj a1_0 a1_1 a1_2 a1_3 a1_4 a1_5 a1_6 len1_6 cap1_6))
  have HZ := hide ((hZ.alloc (cfg a0_0 len0_0 cap0_0 a0_1 a0_2)).alloc (vobj a1_0 a1_1 a1_2 a1_3 a1_4 a1_5 a1_6 len1_6 cap1_6))
  have HC := hide ((CAt.lit w w.heap.size rfl a0_0 len0_0 cap0_0 a0_1 a0_2).alloc (vobj a1_0 a1_1 a1_2 a1_3 a1_4 a1_5 a1_6 len1_6 cap1_6))
  have HV := hide (VAt.lit (w.alloc (cfg a0_0 len0_0 cap0_0 a0_1 a0_2)) (w.heap.size + 1) (by simp) a1_0 a1_1 a1_2 a1_3 a1_4 a1_5 a1_6 len1_6 cap1_6)
  have HN := hide (((Below.refl _ w).alloc (Nat.le_refl _) (cfg a0_0 len0_0 cap0_0 a0_1 a0_2)).alloc (by simp) (vobj a1_0 a1_1 a1_2 a1_3 a1_4 a1_5 a1_6 len1_6 cap1_6))
  clear hB hu hZ
  have hSb := mkS_b a0_1
  have hlb := mkBs_len bs
  obtain ⟨S, hS⟩ : ∃ x, Hid (mkS a0_1 = x) := ⟨_, rfl⟩
  obtain ⟨B, hB⟩ : ∃ x, Hid (mkB a0_2 = x) := ⟨_, rfl⟩
  obtain ⟨n, hn⟩ : ∃ x, Hid ((mkBs bs).length = x) := ⟨_, rfl⟩
  rw [hS.out] at hSb
  rw [hn.out] at hlb
  have hTb := epo_made a1_0 S hSb
  have hwb := mvW_len n zs hlb.1
  obtain ⟨T, hT⟩ : ∃ x, Hid (epo (a1_0 % 200) S = x) := ⟨_, rfl⟩
  obtain ⟨s, hs0⟩ : ∃ x, Hid (a1_0 % 200 = x) := ⟨_, rfl⟩
  obtain ⟨E, hE⟩ : ∃ x, Hid (a1_2 % (T + 1) = x) := ⟨_, rfl⟩
  obtain ⟨h8, hh8⟩ : ∃ x, Hid (a1_1 % 8 = x) := ⟨_, rfl⟩
  obtain ⟨r8, hr8⟩ : ∃ x, Hid (a1_3 % 8 = x) := ⟨_, rfl⟩
  obtain ⟨t8, ht8⟩ : ∃ x, Hid (a1_5 % 8 = x) := ⟨_, rfl⟩
  obtain ⟨m, hm0⟩ : ∃ x, Hid ((mvW n zs).length = x) := ⟨_, rfl⟩
  rw [hT.out] at hTb
  rw [hm0.out] at hwb
  have hsb : 0 ≤ s ∧ s < 200 := by rw [← hs0.out]; omega
  have hT2 : Hid (epo s S = T) := by rw [← hs0.out]; exact hT
  have hW := hide (whoB_mvW n zs hlb.1)
  have hw1 : IntKind.i64.wrap (1 + a2) = 1 + a2 := by rw [IntKind.wrap_i64]; omega
  have hw2 : IntKind.i64.wrap (T + (1 + a2)) = T + (1 + a2) := by rw [IntKind.wrap_i64]; omega
  have hw3 : IntKind.i64.wrap (T + 1) = T + 1 := by rw [IntKind.wrap_i64]; omega
  have hw4 : IntKind.i64.wrap (T + 1 + a2) = T + 1 + a2 := by rw [IntKind.wrap_i64]; omega
  go_enter Try.func8, Try.ntmps8
  go_wp2_with fail
  refine (awake_any _).mono ?_
  rintro e w1 ⟨rfl, hbel⟩
  have HB1 := hide (HB.out.below hbel)
  have HZ1 := hide (HZ.out.below hbel)
  have HC1 := hide (HC.out.below hbel)
  have HV1 := hide (HV.out.below hbel)
  have HN1 := hide (HN.out.trans (hbel.mono (by simp <;> omega)))
  clear HB HZ HC HV HN hbel
  obtain ⟨hlt, p0, p1, p2⟩ := HC1.out
  go_wp2_with fail
  refine (make_any bs _ _ _ _ _ _ HB1.out HU.out hs hb).mono ?_
  rintro e w2 ⟨ao, d, rfl, hR, hbel⟩
  rw [hS.out, hB.out, hn.out]
  have HZ2 := hide ((HZ1.out.below hbel).alloc (cfg ao n d S B))
  have HV2 := hide ((HV1.out.below hbel).alloc (cfg ao n d S B))
  have HC2 := hide (CAt.lit w2 w2.heap.size rfl ao n d S B)
  have HN2 := hide ((HN1.out.trans (hbel.mono HN1.out.size)).alloc (by have := HN1.out.size; have := hbel.size; omega) (cfg ao n d S B))
  clear HZ1 HV1 HN1 HB1 hbel p0 p1 p2 hR
  obtain ⟨hlt1, q0, q1, q2, q3, q4, q5, q6⟩ := HV2.out
  go_wp2_with fail
  refine (make5_any zs _ _ _ _ _ _ _ _ _ _ _ _ _ _ _ HZ2.out hlb hSb hv0 hv1 hv2 hv3 hv5).mono ?_
  rintro e w3 ⟨ao2, d2, rfl, hR, hbel⟩
  rw [hT.out, hs0.out, hE.out, hh8.out, hr8.out, ht8.out, hm0.out]
  rw [hm0.out] at hR
  have HC3 := hide (HC2.out.below hbel)
  have HN3 := hide (HN2.out.trans (hbel.mono HN2.out.size))
  have HR3 := hide hR
  clear HZ2 HV2 HC2 HN2 hbel hR q0 q1 q2 q3 q4 q5 q6 hlt hlt1
  obtain ⟨hlt, p0, p1, p2⟩ := HC3.out
  go_wp2
  go_region_held3 (fun w' => w'.cell? ⟨w3.heap.size, 0, none⟩ = some (.int .i64 s) ∧ w'.cell? ⟨w3.heap.size, 1, none⟩ = some (.int .u64 h8) ∧ w'.cell? ⟨w3.heap.size, 2, none⟩ = some (.int .i64 E) ∧ w'.cell? ⟨w3.heap.size, 3, none⟩ = some (.int .u64 r8) ∧ w'.cell? ⟨w3.heap.size, 4, none⟩ = some (.int .i64 T) ∧ w'.cell? ⟨w3.heap.size, 5, none⟩ = some (.int .u64 t8) ∧ w'.cell? ⟨w3.heap.size, 6, none⟩ = some (.slice ao2 m d2)) (go_keep) (fail)
  all_goals
    have pp0 : ∀ o1 o2 o3, (((w3.alloc o1).alloc o2).alloc o3).cell? ⟨w2.heap.size, 0, none⟩ = some (.slice ao n d) := fun o1 o2 o3 => (((HC3.out.alloc o1).alloc o2).alloc o3).c0
    have pp1 : ∀ o1 o2 o3, (((w3.alloc o1).alloc o2).alloc o3).cell? ⟨w2.heap.size, 1, none⟩ = some (.int .i64 S) := fun o1 o2 o3 => (((HC3.out.alloc o1).alloc o2).alloc o3).c1
    have pp2 : ∀ o1 o2 o3, (((w3.alloc o1).alloc o2).alloc o3).cell? ⟨w2.heap.size, 2, none⟩ = some (.int .i64 B) := fun o1 o2 o3 => (((HC3.out.alloc o1).alloc o2).alloc o3).c2
    go_wp2_with fail
    refine (right_any (mvW n zs) _ _ _ _ _ _ _ _ _ _ _ _ _ _ _ (((HR3.out.alloc _).alloc _).alloc _).drew (by omega) (by omega)).mono ?_
    rintro e w5 ⟨rfl, hbel⟩
    rw [hW.out, Bool.true_and, late_no s E T S a2 hT2.out hm.1]
    have HC5 := hide ((((HC3.out.alloc _).alloc _).alloc _).drew.below hbel)
    have HR5 := hide ((((HR3.out.alloc _).alloc _).alloc _).drew.below hbel)
    have HN5 := hide ((((((HN3.out.alloc HN3.out.size _).alloc (by have := HN3.out.size; simp; omega) _).alloc (by have := HN3.out.size; simp; omega) _)).drew).trans (hbel.mono (by have := HN3.out.size; simp; omega)))
    first
      | have HF := hide ((VAt.lit ((w3.alloc _).alloc _) (w3.heap.size + 1 + 1) (by simp) s h8 (T + 1 + a2) r8 T t8 ao2 m d2).drew.below hbel)
      | have HF := hide (((VAt.lit (w3.alloc _) (w3.heap.size + 1) (by simp) s h8 (T + 1 + a2) r8 T t8 ao2 m d2).alloc _).drew.below hbel)
    clear hbel HC3 HR3 HN3 pp0 pp1 pp2 p0 p1 p2
    obtain ⟨hlt5, p0, p1, p2⟩ := HC5.out
    obtain ⟨hlt6, q0, q1, q2, q3, q4, q5, q6⟩ := HF.out
    go_wp2_with fail
    refine (right_any (mvW n zs) _ _ _ _ _ _ _ _ _ _ _ _ _ _ _ HR5.out (by omega) (by omega)).mono ?_
    rintro e w6 ⟨rfl, hbel⟩
    rw [hW.out, Bool.true_and, far_no s T S a2 hm.1]
    have HN6 := hide (HN5.out.trans (hbel.mono HN5.out.size))
    clear hbel
    go_wp2
    go_ret
    exact ⟨rfl, HN6.out⟩

set_option maxRecDepth 100000 in
theorem lifted (os : Os) (started : os.Started) (H : Type) (enc : TypeId × Value → H) :
    ReturnsInHanded {} Try.checked os 8 .any (Rows.voteEpochsSpec.pre6 enc Try.prog Try.f8 Rows.voteEpochsRow.domain false) (Rows.voteEpochsSpec.post enc Try.prog Try.f8 false true false false) := by
  refine returnsInHanded_of_change (C := Try.checked) own started (by kernel_rfl) Try.func8
    (ChangeSpec.witness6 (enc := enc) (C := Try.checked) false ⟨#[], #[.agg #[.slice none 0 0, .int .i64 0, .int .i64 0], .agg #[.int .i64 0, .int .u64 0, .int .i64 0, .int .u64 0, .int .i64 0, .int .u64 0, .slice none 0 0], .int .u8 0], []⟩ 8 (by kernel_rfl) (by kernel_rfl) (by kernel_rfl) (by kernel_rfl)) ?_
  intro W base args ds gs before hval0 hW hcnd _
  have hval : ∀ (j : Nat) t v, Try.f8.params[j]? = some t → args[j]? = some v → Value.okWide Try.prog W .any base t v := hval0
  have hW' := hW
  obtain ⟨p, q, hA0, hV, rfl, hfz, hnd⟩ := hW
  have hA : DataW.TrodAll enc Try.prog W 0 (fun _ => true) true Try.f8.params.toList args.toList ds p := hA0
  rw [Try.params8] at hA hval
  obtain ⟨v0, vs0, d0, ds0, p0, q0, hargs, rfl, rfl, h0, r0⟩ := trodAll_cons hA
  obtain ⟨v1, vs1, d1, ds1, p1, q1, rfl, rfl, rfl, h1, r1⟩ := trodAll_cons r0
  obtain ⟨v2, vs2, d2, ds2, p2, q2, rfl, rfl, rfl, h2, r2⟩ := trodAll_cons r1
  obtain ⟨rfl, rfl, rfl⟩ := trodAll_nil r2
  obtain rfl : args = #[v0, v1, v2] := by cases args; simp_all
  obtain ⟨rfl, rfl⟩ := trodVars_none hV
  obtain ⟨cs0, rfl, sz0⟩ := okWide_struct Try.underlying24 (hval 0 24 v0 rfl rfl)
  rw [cells24] at sz0
  obtain ⟨l0⟩ := cs0
  obtain ⟨c0_0, c0_1, c0_2, rfl⟩ := list3 (show l0.length = 3 from sz0)
  clear sz0
  have k0 := h0
  have lt0 : ∀ x ∈ p0, x.block < W.heap.size := by obtain ⟨m, hm⟩ := k0; exact DataW.trod_lt m _ _ _ hm
  obtain ⟨fuel0, hf0⟩ := h0
  simp only [Value.cells] at hf0
  obtain ⟨xs0_0t24, n0_0t24, _, hx0_0t24, _, hlen0_0t24, hf0_0t24⟩ := DataW.trod_struct Try.underlying24 hf0
  obtain ⟨y0_0t24_0, y0_0t24_1, y0_0t24_2, rfl⟩ := list3 (show xs0_0t24.length = 3 from hlen0_0t24)
  have hy0_0t24_0 : DataW.trod enc Try.prog W 0 (fun _ => true) true n0_0t24 22 [c0_0] = some y0_0t24_0 := by simpa [Value.cells, cells3, cells4, cells5, cells22, cells24, cells25, cells27, cells28, cells30] using hf0_0t24 0 _ rfl
  have hy0_0t24_1 : DataW.trod enc Try.prog W 0 (fun _ => true) true n0_0t24 3 [c0_1] = some y0_0t24_1 := by simpa [Value.cells, cells3, cells4, cells5, cells22, cells24, cells25, cells27, cells28, cells30] using hf0_0t24 1 _ rfl
  have hy0_0t24_2 : DataW.trod enc Try.prog W 0 (fun _ => true) true n0_0t24 3 [c0_2] = some y0_0t24_2 := by simpa [Value.cells, cells3, cells4, cells5, cells22, cells24, cells25, cells27, cells28, cells30] using hf0_0t24 2 _ rfl
  obtain ⟨a0_0, len0_0, cap0_0, z0_0, e0_0, w0_0⟩ : ∃ a len cap zs, c0_0 = .slice a len cap ∧ IsRow .u64 W a len cap zs := by
    rcases open_ints Try.underlying22 Try.underlying25 (by kernel_rfl) hy0_0t24_0 with ⟨hcs, _⟩ | ⟨x, l, c, zs, hcs, _, hl, hm, hz, _, hcell, hwz⟩
    · simp at hcs
      exact ⟨none, 0, 0, [], hcs, .inl ⟨rfl, rfl, rfl, rfl⟩⟩
    · simp at hcs
      exact ⟨_, _, _, zs, hcs, .inr ⟨_, rfl, hl, hm, by simpa using hz, hcell, hwz⟩⟩
  subst e0_0
  obtain ⟨a0_1, e0_1, x0_1, w0_1⟩ := DataW.trod_int Try.underlying3 hy0_0t24_1
  simp at e0_1
  subst e0_1
  obtain ⟨a0_2, e0_2, x0_2, w0_2⟩ := DataW.trod_int Try.underlying3 hy0_0t24_2
  simp at e0_2
  subst e0_2
  obtain ⟨cs1, rfl, sz1⟩ := okWide_struct Try.underlying30 (hval 1 30 v1 rfl rfl)
  rw [cells30] at sz1
  obtain ⟨l1⟩ := cs1
  obtain ⟨c1_0, c1_1, c1_2, c1_3, c1_4, c1_5, c1_6, rfl⟩ := list7 (show l1.length = 7 from sz1)
  clear sz1
  have k1 := h1
  have lt1 : ∀ x ∈ p1, x.block < W.heap.size := by obtain ⟨m, hm⟩ := k1; exact DataW.trod_lt m _ _ _ hm
  obtain ⟨fuel1, hf1⟩ := h1
  simp only [Value.cells] at hf1
  obtain ⟨xs1_0t30, n1_0t30, _, hx1_0t30, _, hlen1_0t30, hf1_0t30⟩ := DataW.trod_struct Try.underlying30 hf1
  obtain ⟨y1_0t30_0, y1_0t30_1, y1_0t30_2, y1_0t30_3, y1_0t30_4, rfl⟩ := list5 (show xs1_0t30.length = 5 from hlen1_0t30)
  have hy1_0t30_0 : DataW.trod enc Try.prog W 0 (fun _ => true) true n1_0t30 3 [c1_0] = some y1_0t30_0 := by simpa [Value.cells, cells3, cells4, cells5, cells22, cells24, cells25, cells27, cells28, cells30] using hf1_0t30 0 _ rfl
  have hy1_0t30_1 : DataW.trod enc Try.prog W 0 (fun _ => true) true n1_0t30 25 [c1_1] = some y1_0t30_1 := by simpa [Value.cells, cells3, cells4, cells5, cells22, cells24, cells25, cells27, cells28, cells30] using hf1_0t30 1 _ rfl
  have hy1_0t30_2 : DataW.trod enc Try.prog W 0 (fun _ => true) true n1_0t30 27 [c1_2, c1_3] = some y1_0t30_2 := by simpa [Value.cells, cells3, cells4, cells5, cells22, cells24, cells25, cells27, cells28, cells30] using hf1_0t30 2 _ rfl
  have hy1_0t30_3 : DataW.trod enc Try.prog W 0 (fun _ => true) true n1_0t30 27 [c1_4, c1_5] = some y1_0t30_3 := by simpa [Value.cells, cells3, cells4, cells5, cells22, cells24, cells25, cells27, cells28, cells30] using hf1_0t30 3 _ rfl
  have hy1_0t30_4 : DataW.trod enc Try.prog W 0 (fun _ => true) true n1_0t30 28 [c1_6] = some y1_0t30_4 := by simpa [Value.cells, cells3, cells4, cells5, cells22, cells24, cells25, cells27, cells28, cells30] using hf1_0t30 4 _ rfl
  obtain ⟨a1_0, e1_0, x1_0, w1_0⟩ := DataW.trod_int Try.underlying3 hy1_0t30_0
  simp at e1_0
  subst e1_0
  obtain ⟨a1_1, e1_1, x1_1, w1_1⟩ := DataW.trod_int Try.underlying25 hy1_0t30_1
  simp at e1_1
  subst e1_1
  obtain ⟨xs1_2t27, n1_2t27, _, hx1_2t27, _, hlen1_2t27, hf1_2t27⟩ := DataW.trod_struct Try.underlying27 hy1_0t30_2
  obtain ⟨y1_2t27_0, y1_2t27_1, rfl⟩ := list2 (show xs1_2t27.length = 2 from hlen1_2t27)
  have hy1_2t27_0 : DataW.trod enc Try.prog W 0 (fun _ => true) true n1_2t27 3 [c1_2] = some y1_2t27_0 := by simpa [Value.cells, cells3, cells4, cells5, cells22, cells24, cells25, cells27, cells28, cells30] using hf1_2t27 0 _ rfl
  have hy1_2t27_1 : DataW.trod enc Try.prog W 0 (fun _ => true) true n1_2t27 25 [c1_3] = some y1_2t27_1 := by simpa [Value.cells, cells3, cells4, cells5, cells22, cells24, cells25, cells27, cells28, cells30] using hf1_2t27 1 _ rfl
  obtain ⟨a1_2, e1_2, x1_2, w1_2⟩ := DataW.trod_int Try.underlying3 hy1_2t27_0
  simp at e1_2
  subst e1_2
  obtain ⟨a1_3, e1_3, x1_3, w1_3⟩ := DataW.trod_int Try.underlying25 hy1_2t27_1
  simp at e1_3
  subst e1_3
  obtain ⟨xs1_4t27, n1_4t27, _, hx1_4t27, _, hlen1_4t27, hf1_4t27⟩ := DataW.trod_struct Try.underlying27 hy1_0t30_3
  obtain ⟨y1_4t27_0, y1_4t27_1, rfl⟩ := list2 (show xs1_4t27.length = 2 from hlen1_4t27)
  have hy1_4t27_0 : DataW.trod enc Try.prog W 0 (fun _ => true) true n1_4t27 3 [c1_4] = some y1_4t27_0 := by simpa [Value.cells, cells3, cells4, cells5, cells22, cells24, cells25, cells27, cells28, cells30] using hf1_4t27 0 _ rfl
  have hy1_4t27_1 : DataW.trod enc Try.prog W 0 (fun _ => true) true n1_4t27 25 [c1_5] = some y1_4t27_1 := by simpa [Value.cells, cells3, cells4, cells5, cells22, cells24, cells25, cells27, cells28, cells30] using hf1_4t27 1 _ rfl
  obtain ⟨a1_4, e1_4, x1_4, w1_4⟩ := DataW.trod_int Try.underlying3 hy1_4t27_0
  simp at e1_4
  subst e1_4
  obtain ⟨a1_5, e1_5, x1_5, w1_5⟩ := DataW.trod_int Try.underlying25 hy1_4t27_1
  simp at e1_5
  subst e1_5
  obtain ⟨a1_6, len1_6, cap1_6, z1_6, e1_6, w1_6⟩ : ∃ a len cap zs, c1_6 = .slice a len cap ∧ IsRow .i64 W a len cap zs := by
    rcases open_ints Try.underlying28 Try.underlying3 (by kernel_rfl) hy1_0t30_4 with ⟨hcs, _⟩ | ⟨x, l, c, zs, hcs, _, hl, hm, hz, _, hcell, hwz⟩
    · simp at hcs
      exact ⟨none, 0, 0, [], hcs, .inl ⟨rfl, rfl, rfl, rfl⟩⟩
    · simp at hcs
      exact ⟨_, _, _, zs, hcs, .inr ⟨_, rfl, hl, hm, by simpa using hz, hcell, hwz⟩⟩
  subst e1_6
  obtain ⟨a2, rfl, rfl, rfl, w2⟩ := open_int Try.underlying5 (hval 2 5 v2 rfl rfl) h2
  clear hA0 hval0
  refine (walk a0_0 len0_0 cap0_0 z0_0 a0_1 a0_2 a1_0 a1_1 a1_2 a1_3 a1_4 a1_5 a1_6 len1_6 cap1_6 z1_6 a2 W w0_0 w0_1 w0_2 w1_0 w1_1 w1_2 w1_3 w1_4 w1_5 w1_6 w2).mono fun e W' ⟨he, bel⟩ => ?_
  subst he
  exact ⟨_, rfl, _, _, _, [], _, [], hW', trodAll_mk1 (shut_bool Try.underlying4 _), (trodAll_cons_mk (Below.trod laidOut (by kernel_rfl) (of_decide_eq_true (by kernel_rfl)) k0 bel lt0) (trodAll_cons_mk (Below.trod laidOut (by kernel_rfl) (of_decide_eq_true (by kernel_rfl)) k1 bel lt1) (trodAll_cons_mk (shut_int Try.underlying5 w2) trodAll_mk0))), rfl, bel.frame _, fun h => by cases h⟩

theorem over : Rows.voteEpochsRow.holds Try.pinned (OpenSpec.ofChange Rows.voteEpochsSpec) :=
  OpenClaim.holds_of_wide 8 Try.f8 rfl rfl rfl rfl rfl rfl rfl ⟨rfl, rfl, rfl, rfl, rfl⟩ rfl rfl rfl rfl rfl (by kernel_rfl) Try.func8 (by kernel_rfl)
    (of_decide_eq_true (by kernel_rfl)) (by unfold Func.isWrapper; first | (rw [if_pos (by decide +kernel)]; kernel_rfl) | (rw [if_neg (by decide +kernel)]; exact ⟨rfl, rfl⟩))
    (fun os started H enc _ => lifted os started H enc)

theorem proved : Rows.VoteEpochsSaid := over
end Go.Proofs.Ytnofpmdnpfijnaa.voteEpochs

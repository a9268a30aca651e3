/-
  a vote that may be may be without one of its validators, too, if there is another one (VoteFewer is true of every input).
-/
import Derived.Test.YtnofpmdnpfijnaaRows

import Derived.WalkKit

import Derived.Below

import Derived.ProofKit

import Derived.OpenShut

import Derived.ShutString

import Derived.ChangeOld

import Derived.Test.YtnofpmdnpfijnaaVSet

namespace Go.Proofs.Ytnofpmdnpfijnaa.voteFewer

open Go.ChangeShapes Go.WideShapes Go.ChangeAt Go.RowKit

set_option linter.unusedVariables false

theorem own : ownKnob Try.prog.godebug = none := by kernel_rfl
theorem laidOut : laidOutB Try.prog = true := by kernel_rfl
theorem cells3 : Try.prog.cellsOf 3 = 1 := by kernel_rfl
theorem cells4 : Try.prog.cellsOf 4 = 1 := by kernel_rfl
theorem cells5 : Try.prog.cellsOf 5 = 1 := by kernel_rfl
theorem cells22 : Try.prog.cellsOf 22 = 1 := by kernel_rfl
theorem cells24 : Try.prog.cellsOf 24 = 3 := by kernel_rfl
theorem cells25 : Try.prog.cellsOf 25 = 1 := by kernel_rfl
theorem cells27 : Try.prog.cellsOf 27 = 2 := by kernel_rfl
theorem cells28 : Try.prog.cellsOf 28 = 1 := by kernel_rfl
theorem cells30 : Try.prog.cellsOf 30 = 7 := by kernel_rfl
theorem list2 {α : Type _} {l : List α} (h : l.length = 2) : ∃ x0 x1, l = [x0, x1] := by
  match l, h with
  | [x0, x1], _ => exact ⟨x0, x1, rfl⟩
theorem list3 {α : Type _} {l : List α} (h : l.length = 3) : ∃ x0 x1 x2, l = [x0, x1, x2] := by
  match l, h with
  | [x0, x1, x2], _ => exact ⟨x0, x1, x2, rfl⟩
theorem list5 {α : Type _} {l : List α} (h : l.length = 5) : ∃ x0 x1 x2 x3 x4, l = [x0, x1, x2, x3, x4] := by
  match l, h with
  | [x0, x1, x2, x3, x4], _ => exact ⟨x0, x1, x2, x3, x4, rfl⟩
theorem list7 {α : Type _} {l : List α} (h : l.length = 7) : ∃ x0 x1 x2 x3 x4 x5 x6, l = [x0, x1, x2, x3, x4, x5, x6] := by
  match l, h with
  | [x0, x1, x2, x3, x4, x5, x6], _ => exact ⟨x0, x1, x2, x3, x4, x5, x6, rfl⟩
theorem fewer_sub (W : List Int) (k : Nat) (x : Int) (h : x ∈ W.take k ++ W.drop (k + 1)) : x ∈ W := by
  rcases List.mem_append.1 h with h | h
  · exact List.mem_of_mem_take h
  · exact List.mem_of_mem_drop h
theorem fewer_lt (W : List Int) (k : Nat) (h : W.Pairwise (· < ·)) : (W.take k ++ W.drop (k + 1)).Pairwise (· < ·) := by
  have h1 : (W.take k ++ W.drop (k + 1)).Sublist W := by
    have := (List.Sublist.refl (W.take k)).append (List.drop_sublist_drop_left W (show k ≤ k + 1 by omega))
    rw [List.take_append_drop] at this
    exact this
  exact h.sublist h1
theorem fewer_who (W : List Int) (k : Nat) (n : Int) (hW : whoB W n = true) : whoB (W.take k ++ W.drop (k + 1)) n = decide (0 < (W.take k ++ W.drop (k + 1)).length) := by
  obtain ⟨h1, h2, h3⟩ := (whoB_true _ _).1 hW
  by_cases h : 0 < (W.take k ++ W.drop (k + 1)).length
  · rw [decide_eq_true h]
    exact (whoB_true _ _).2 ⟨fewer_lt W k h1, fun x hx => h2 x (fewer_sub W k x hx), h⟩
  · rw [decide_eq_false h, whoB, decide_eq_false h, Bool.and_false]
theorem fewer_both (W : List Int) (k : Nat) (h : W.Pairwise (· < ·)) : bth W (W.take k ++ W.drop (k + 1)) = W.take k ++ W.drop (k + 1) :=
  lt_ext _ _ (bth_lt _ _) (fewer_lt W k h) (fun x => by rw [mem_bth]; exact ⟨fun h => h.2, fun h => ⟨fewer_sub W k x h, h⟩⟩)

set_option maxHeartbeats 6000000 in
theorem walk (a0_0 : Option Addr) (len0_0 cap0_0 : Nat) (z0_0 : List Int) (a0_1 : Int) (a0_2 : Int) (a1_0 : Int) (a1_1 : Int) (a1_2 : Int) (a1_3 : Int) (a1_4 : Int) (a1_5 : Int) (a1_6 : Option Addr) (len1_6 cap1_6 : Nat) (z1_6 : List Int) (a2 : Int) (w : World) (w0_0 : IsRow .u64 w a0_0 len0_0 cap0_0 z0_0) (w0_1 : (Lit.int .i64 a0_1).wf = true) (w0_2 : (Lit.int .i64 a0_2).wf = true) (w1_0 : (Lit.int .i64 a1_0).wf = true) (w1_1 : (Lit.int .u64 a1_1).wf = true) (w1_2 : (Lit.int .i64 a1_2).wf = true) (w1_3 : (Lit.int .u64 a1_3).wf = true) (w1_4 : (Lit.int .i64 a1_4).wf = true) (w1_5 : (Lit.int .u64 a1_5).wf = true) (w1_6 : IsRow .i64 w a1_6 len1_6 cap1_6 z1_6) (w2 : (Lit.int .u8 a2).wf = true) :
    Calls Try.prog 6 #[.agg #[.slice a0_0 len0_0 cap0_0, .int .i64 a0_1, .int .i64 a0_2], .agg #[.int .i64 a1_0, .int .u64 a1_1, .int .i64 a1_2, .int .u64 a1_3, .int .i64 a1_4, .int .u64 a1_5, .slice a1_6 len1_6 cap1_6], .int .u8 a2] w fun e w' => e = .returned (.bool true) ∧ Below w.heap.size w w' := by
  have hB := w0_0.row
  have hu := w0_0.u64
  have hs := wf_i64 w0_1
  have hb := wf_i64 w0_2
  have hZ := w1_6.row
  have hv0 := wf_i64 w1_0
  have hv1 := wf_u64 w1_1
  have hv2 := wf_i64 w1_2
  have hv3 := wf_u64 w1_3
  have hv5 := wf_u64 w1_5
  have hdr := wf8 w2
  clear w0_0 w0_1 w0_2 w1_0 w1_1 w1_2 w1_3 w1_4 w1_5 w1_6 w2
  generalize z0_0.take len0_0 = bs at *
  generalize z1_6.take len1_6 = zs at *
  have HU := hide hu
  have HB := hide ((hB.alloc (cfg a0_0 len0_0 cap0_0 a0_1 a0_2)).alloc (vobj a1_0 a1_1 a1_2 a1_3 a1_4 a1_5 a1_6 len1_6 cap1_6))
  have HZ := hide ((hZ.alloc (cfg a0_0 len0_0 cap0_0 a0_1 a0_2)).alloc (vobj a1_0 a1_1 a1_2 a1_3 a1_4 a1_5 a1_6 len1_6 cap1_6))
  have HC := hide ((CAt.lit w w.heap.size rfl a0_0 len0_0 cap0_0 a0_1 a0_2).alloc (vobj a1_0 a1_1 a1_2 a1_3 a1_4 a1_5 a1_6 len1_6 cap1_6))
  have HV := hide (VAt.lit (w.alloc (cfg a0_0 len0_0 cap0_0 a0_1 a0_2)) (w.heap.size + 1) (by simp) a1_0 a1_1 a1_2 a1_3 a1_4 a1_5 a1_6 len1_6 cap1_6)
  have HN := hide (((Below.refl _ w).alloc (Nat.le_refl _) (cfg a0_0 len0_0 cap0_0 a0_1 a0_2)).alloc (by simp) (vobj a1_0 a1_1 a1_2 a1_3 a1_4 a1_5 a1_6 len1_6 cap1_6))
  clear hB hu hZ
  have hSb := mkS_b a0_1
  have hlb := mkBs_len bs
  obtain ⟨S, hS⟩ : ∃ x, Hid (mkS a0_1 = x) := ⟨_, rfl⟩
  obtain ⟨B, hB⟩ : ∃ x, Hid (mkB a0_2 = x) := ⟨_, rfl⟩
  obtain ⟨n, hn⟩ : ∃ x, Hid ((mkBs bs).length = x) := ⟨_, rfl⟩
  rw [hS.out] at hSb
  rw [hn.out] at hlb
  have hTb := epo_made a1_0 S hSb
  have hwb := mvW_len n zs hlb.1
  obtain ⟨T, hT⟩ : ∃ x, Hid (epo (a1_0 % 200) S = x) := ⟨_, rfl⟩
  obtain ⟨s, hs0⟩ : ∃ x, Hid (a1_0 % 200 = x) := ⟨_, rfl⟩
  obtain ⟨E, hE⟩ : ∃ x, Hid (a1_2 % (T + 1) = x) := ⟨_, rfl⟩
  obtain ⟨h8, hh8⟩ : ∃ x, Hid (a1_1 % 8 = x) := ⟨_, rfl⟩
  obtain ⟨r8, hr8⟩ : ∃ x, Hid (a1_3 % 8 = x) := ⟨_, rfl⟩
  obtain ⟨t8, ht8⟩ : ∃ x, Hid (a1_5 % 8 = x) := ⟨_, rfl⟩
  obtain ⟨m, hm0⟩ : ∃ x, Hid ((mvW n zs).length = x) := ⟨_, rfl⟩
  rw [hT.out] at hTb
  rw [hm0.out] at hwb
  have hsb : 0 ≤ s ∧ s < 200 := by rw [← hs0.out]; omega
  have hT2 : Hid (epo s S = T) := by rw [← hs0.out]; exact hT
  have hW := hide (whoB_mvW n zs hlb.1)
  obtain ⟨i0, hi, hz0, hz1, hz2⟩ := info_parts infoI
  go_enter Try.func6, Try.ntmps6
  go_wp2_with fail
  refine (awake_any _).mono ?_
  rintro e w1 ⟨rfl, hbel⟩
  have HB1 := hide (HB.out.below hbel)
  have HZ1 := hide (HZ.out.below hbel)
  have HC1 := hide (HC.out.below hbel)
  have HV1 := hide (HV.out.below hbel)
  have HN1 := hide (HN.out.trans (hbel.mono (by simp <;> omega)))
  clear HB HZ HC HV HN hbel
  obtain ⟨hlt, p0, p1, p2⟩ := HC1.out
  go_wp2_with fail
  refine (make_any bs _ _ _ _ _ _ HB1.out HU.out hs hb).mono ?_
  rintro e w2 ⟨ao, d, rfl, hR, hbel⟩
  rw [hS.out, hB.out, hn.out]
  have HZ2 := hide ((HZ1.out.below hbel).alloc (cfg ao n d S B))
  have HV2 := hide ((HV1.out.below hbel).alloc (cfg ao n d S B))
  have HC2 := hide (CAt.lit w2 w2.heap.size rfl ao n d S B)
  have HN2 := hide ((HN1.out.trans (hbel.mono HN1.out.size)).alloc (by have := HN1.out.size; have := hbel.size; omega) (cfg ao n d S B))
  clear HZ1 HV1 HN1 HB1 hbel p0 p1 p2 hR
  obtain ⟨hlt1, q0, q1, q2, q3, q4, q5, q6⟩ := HV2.out
  go_wp2_with fail
  refine (make5_any zs _ _ _ _ _ _ _ _ _ _ _ _ _ _ _ HZ2.out hlb hSb hv0 hv1 hv2 hv3 hv5).mono ?_
  rintro e w3 ⟨ao2, d2, rfl, hR, hbel⟩
  rw [hT.out, hs0.out, hE.out, hh8.out, hr8.out, ht8.out, hm0.out]
  rw [hm0.out] at hR
  have HC3 := hide (HC2.out.below hbel)
  have HN3 := hide (HN2.out.trans (hbel.mono HN2.out.size))
  have HR3 := hide hR
  clear HZ2 HV2 HC2 HN2 hbel hR q0 q1 q2 q3 q4 q5 q6 hlt hlt1
  obtain ⟨hlt, p0, p1, p2⟩ := HC3.out
  have hRc := HR3.out.cap
  have hRl := HR3.out.len
  unfold maxLen at hRc
  obtain ⟨b0, off0, rfl, hb0, _⟩ := HR3.out.cell 0 (by omega)
  obtain ⟨k, hk⟩ : ∃ k : Nat, a2.tmod (m : Int) = (k : Int) := ⟨(a2.tmod (m : Int)).toNat, by rw [Int.toNat_of_nonneg (Int.tmod_nonneg _ hdr.1)]⟩
  have hkm : k < m := by have := Int.tmod_lt_of_pos a2 (show 0 < (m : Int) by omega); omega
  have hmn : ¬ (m : Int) = 0 := by omega
  have hkd : (k : Int) ≤ d2 := by omega
  have hk1 : (k : Int) + 1 ≤ m := by omega
  have hk2 : (k : Int) + 1 ≤ d2 := by omega
  have hkm2 : (k : Int) ≤ m := by omega
  have hmd : (m : Int) ≤ d2 := by omega
  have hw1 : IntKind.i64.wrap ((k : Int) + 1) = (k : Int) + 1 := by rw [IntKind.wrap_i64]; omega
  by_cases hd : d2 = k + 1
  · have hmk : m = k + 1 := by omega
    obtain rfl : m = d2 := by omega
    have hk0 : (0 : Int) ≤ (k : Int) + 1 := by omega
    have htn : ((k : Int) + 1).toNat = k + 1 := by omega
    have hT1 : (m = k + 1) = True := by simp [hmk]
    have hT2 : m - (k + 1) = 0 := by omega
    have HMK := hide hmk
    clear hmk hd
    obtain ⟨w5, hw5⟩ : ∃ x, Hid ((w3.alloc (vobj s h8 E r8 T t8 (some ⟨b0, off0, none⟩) m m)).alloc (vobj s h8 E r8 T t8 (some ⟨b0, off0, none⟩) m m) = x) := ⟨_, rfl⟩
    have HX5 := hide ((VAt.lit w3 w3.heap.size rfl s h8 E r8 T t8 (some ⟨b0, off0, none⟩) m m).alloc (vobj s h8 E r8 T t8 (some ⟨b0, off0, none⟩) m m))
    have HT5 := hide (VAt.lit (w3.alloc (vobj s h8 E r8 T t8 (some ⟨b0, off0, none⟩) m m)) (w3.heap.size + 1) (by simp) s h8 E r8 T t8 (some ⟨b0, off0, none⟩) m m)
    have hf5 : ((w3.alloc (vobj s h8 E r8 T t8 (some ⟨b0, off0, none⟩) m m)).alloc (vobj s h8 E r8 T t8 (some ⟨b0, off0, none⟩) m m)).frozen? ⟨w3.heap.size + 1, 6, none⟩ = false := by simp [go_sem]
    have HC5 := hide ((HC3.out.alloc (vobj s h8 E r8 T t8 (some ⟨b0, off0, none⟩) m m)).alloc (vobj s h8 E r8 T t8 (some ⟨b0, off0, none⟩) m m))
    have HR5 := hide ((HR3.out.alloc (vobj s h8 E r8 T t8 (some ⟨b0, off0, none⟩) m m)).alloc (vobj s h8 E r8 T t8 (some ⟨b0, off0, none⟩) m m))
    have HN5 := hide ((HN3.out.alloc HN3.out.size (vobj s h8 E r8 T t8 (some ⟨b0, off0, none⟩) m m)).alloc (by have := HN3.out.size; simp; omega) (vobj s h8 E r8 T t8 (some ⟨b0, off0, none⟩) m m))
    have hs5 : w3.heap.size + 1 < ((w3.alloc (vobj s h8 E r8 T t8 (some ⟨b0, off0, none⟩) m m)).alloc (vobj s h8 E r8 T t8 (some ⟨b0, off0, none⟩) m m)).heap.size := by simp
    have HN3s := HN3.out.size
    have hbm : w2.heap.size < w3.heap.size := hlt
    rw [hw5.out] at HX5 HT5 hf5 HC5 HR5 HN5 hs5
    go_wp2
    rw [hw5.out]
    clear hw5 HC3 HR3 HN3 p0 p1 p2
    have hcs : Hid (∀ w', Below w5.heap.size w5 w' → w'.cell? ⟨w3.heap.size, 6, none⟩ = some (.slice (some ⟨b0, off0, none⟩) m m)) := fun w' hb' => (HX5.out.below hb').c6
    have hct : Hid (∀ w', Below w5.heap.size w5 w' → w'.cell? ⟨w3.heap.size + 1, 6, none⟩ = some (.slice (some ⟨b0, off0, none⟩) m m) ∧ w'.frozen? ⟨w3.heap.size + 1, 6, none⟩ = false) := fun w' hb' =>
      ⟨(HT5.out.below hb').c6, (World.frozen?_of_block (a := ⟨w3.heap.size + 1, 6, none⟩) (hb'.block _ hs5)).trans hf5⟩
    have hcu : Hid (∀ w', Below w5.heap.size w5 w' → ∀ v, (w'.setCell ⟨w3.heap.size + 1, 6, none⟩ v).cell? ⟨w3.heap.size, 6, none⟩ = some (.slice (some ⟨b0, off0, none⟩) m m)) := fun w' hb' v => ((HX5.out.below hb').set (by omega) v).c6
    have hb5d : Hid (Below w5.heap.size w5 w5.drew) := hide (Below.refl _ _).drew
    have HR5d : Hid (RowIn .i64 w5.drew (some ⟨b0, off0, none⟩) k m ((mvW n zs).take k)) := hide ((HR5.out.below hb5d.out).front k (by omega))
    have hs5d : w5.heap.size ≤ w5.drew.heap.size := Nat.le_refl _
    obtain ⟨l7, hl7⟩ : ∃ x, Hid (k + 0 = x) := ⟨_, rfl⟩
    have hl7b : l7 + 1 = m := by rw [← hl7.out, HMK.out]
    go_region_held3 (fun w' => w'.cell? ⟨w3.heap.size, 6, none⟩ = some (.slice (some ⟨b0, off0, none⟩) m m))
      (first
        | exact hcu.out _ hb7.out _
        | exact hcs.out _ hb7.out
        | exact hcs.out _ hb6.out
        | exact hcs.out _ hb5d.out)
      (first
        | (refine step_append_rows rfl (.tmp 29) (.tmp 34) 28 rfl w5.heap.size 3 i0 .i64 (.int .i64 0) 8 Try.underlying28 hi hz0 hz1 hz2 rfl (.slice ao6 k d6) k ((mvW n zs).take k) rfl H6.out (some ⟨b0, off0, none⟩) 0 0 ((mvW n zs).drop (k + 1)) rfl (by have := (HR5.out.below hb6.out).behind0; rw [HMK.out] at this; exact this) (by unfold maxLen; omega) (by omega) hb6.out.size ?_
           intro ao7 d7 w7 hown7 hgrow7
           rw [hl7.out] at hown7
           rw [hl7.out]
           have hb7 : Hid (Below w5.heap.size w5 w7) := hb6.out.grown hgrow7 hb6.out.size (fun q h => (H6.out.lt q h).1)
           have H7 := hide (hown7)
           obtain ⟨e7, f7⟩ := hct.out _ hb7.out
           clear hown7 hgrow7)
        | (refine step_append_rows rfl (.const (.slice none 0 0)) (.tmp 28) 28 rfl w5.heap.size 3 i0 .i64 (.int .i64 0) 8 Try.underlying28 hi hz0 hz1 hz2 rfl (.slice none 0 0) 0 [] rfl (World.ownsRow_nil _ _ _ _) (some ⟨b0, off0, none⟩) k m ((mvW n zs).take k) rfl HR5d.out (by unfold maxLen; omega) (by omega) hs5d ?_
           intro ao6 d6 w6 hown6 hgrow6
           rw [Nat.zero_add]
           rw [Nat.zero_add, List.nil_append] at hown6
           have hb6 : Hid (Below w5.heap.size w5 w6) := hb5d.out.grown hgrow6 (Nat.le_refl _) (fun q h => by cases h)
           have H6 := hide (hown6)
           clear hown6 hgrow6))
    all_goals
      have HX8 := hide ((HX5.out.below hb7.out).set (show w3.heap.size ≠ w3.heap.size + 1 by omega) (i := 6) (.slice ao7 l7 d7))
      have HT8 := hide ((HT5.out.below hb7.out).set6 ao7 l7 d7)
      have HC8 := hide ((HC5.out.below hb7.out).set (show w2.heap.size ≠ w3.heap.size + 1 by omega) (i := 6) (.slice ao7 l7 d7))
      have HR8 := hide ((HR5.out.below hb7.out).set e7 (.slice ao7 l7 d7))
      have HQ8 : Hid (RowIn .i64 (w7.setCell ⟨w3.heap.size + 1, 6, none⟩ (.slice ao7 l7 d7)) ao7 l7 d7 ((mvW n zs).take k ++ (mvW n zs).drop (k + 1))) := by
        obtain ⟨ao', c', e', R⟩ := RowIn.ofOwned (ownsRow_setCell_below H7.out (a := ⟨w3.heap.size + 1, 6, none⟩) hs5 (.slice ao7 l7 d7))
        cases e'
        exact hide R
      have HN8 : Hid (Below w.heap.size w (w7.setCell ⟨w3.heap.size + 1, 6, none⟩ (.slice ao7 l7 d7))) := hide ((HN5.out.trans (hb7.out.mono HN5.out.size)).setCell (show w.heap.size ≤ w3.heap.size + 1 by have := HN3s; omega) (.slice ao7 l7 d7))
      obtain ⟨w8, hw8⟩ : ∃ x, Hid (w7.setCell ⟨w3.heap.size + 1, 6, none⟩ (.slice ao7 l7 d7) = x) := ⟨_, rfl⟩
      rw [hw8.out] at HX8 HT8 HC8 HR8 HQ8 HN8
      try rw [hw8.out]
      clear hw8 e7 f7 H7 hb7 HX5 HT5 HC5 HR5 HR5d HN5 hcs hct hcu hb5d hf5
      have hYl : ((mvW n zs).take k ++ (mvW n zs).drop (k + 1)).length = l7 := HQ8.out.len
      obtain ⟨bb, hbb1⟩ : ∃ x, decide (0 < l7) = x := ⟨_, rfl⟩
      have hbb2 : decide (0 < (l7 : Int)) = bb := by rw [← hbb1]; exact decide_eq_decide.2 (by omega)
      have hTm : Hid (timesB s E T S = true) := by
        have e1 := timesB_made a1_0 a1_2 S
        rw [hT.out, hs0.out, hE.out, decide_eq_true hTb.1] at e1
        exact hide e1
      have h1 : Hid ((whoB (mvW n zs) n && timesB s E T S) = true) := hide (by rw [hW.out, hTm.out]; rfl)
      have h2 : Hid ((whoB ((mvW n zs).take k ++ (mvW n zs).drop (k + 1)) n && timesB s E T S) = bb) := hide (by rw [hTm.out, Bool.and_true, fewer_who _ _ _ hW.out, hYl, hbb1])
      have h3 : Hid ((bth (mvW n zs) ((mvW n zs).take k ++ (mvW n zs).drop (k + 1))).length = l7) := hide (by rw [fewer_both _ _ (mvW_lt n zs), hYl])
      have hcs : Hid (∀ w', Below w8.heap.size w8 w' → w'.cell? ⟨w2.heap.size, 0, none⟩ = some (.slice ao n d) ∧ w'.cell? ⟨w2.heap.size, 1, none⟩ = some (.int .i64 S) ∧ w'.cell? ⟨w2.heap.size, 2, none⟩ = some (.int .i64 B) ∧ w'.cell? ⟨w3.heap.size, 0, none⟩ = some (.int .i64 s) ∧ w'.cell? ⟨w3.heap.size, 1, none⟩ = some (.int .u64 h8) ∧ w'.cell? ⟨w3.heap.size, 2, none⟩ = some (.int .i64 E) ∧ w'.cell? ⟨w3.heap.size, 3, none⟩ = some (.int .u64 r8) ∧ w'.cell? ⟨w3.heap.size, 4, none⟩ = some (.int .i64 T) ∧ w'.cell? ⟨w3.heap.size, 5, none⟩ = some (.int .u64 t8) ∧ w'.cell? ⟨w3.heap.size, 6, none⟩ = some (.slice (some ⟨b0, off0, none⟩) m m) ∧ w'.cell? ⟨w3.heap.size + 1, 0, none⟩ = some (.int .i64 s) ∧ w'.cell? ⟨w3.heap.size + 1, 1, none⟩ = some (.int .u64 h8) ∧ w'.cell? ⟨w3.heap.size + 1, 2, none⟩ = some (.int .i64 E) ∧ w'.cell? ⟨w3.heap.size + 1, 3, none⟩ = some (.int .u64 r8) ∧ w'.cell? ⟨w3.heap.size + 1, 4, none⟩ = some (.int .i64 T) ∧ w'.cell? ⟨w3.heap.size + 1, 5, none⟩ = some (.int .u64 t8) ∧ w'.cell? ⟨w3.heap.size + 1, 6, none⟩ = some (.slice ao7 l7 d7)) := fun w' hb' =>
        have C := HC8.out.below hb'
        have V := HX8.out.below hb'
        have K := HT8.out.below hb'
        ⟨C.c0, C.c1, C.c2, V.c0, V.c1, V.c2, V.c3, V.c4, V.c5, V.c6, K.c0, K.c1, K.c2, K.c3, K.c4, K.c5, K.c6⟩
      have hbd : Hid (Below w8.heap.size w8 w8.drew) := hide (Below.refl _ _).drew
      go_wp2
      go_region_held3 (fun w' => w'.cell? ⟨w2.heap.size, 0, none⟩ = some (.slice ao n d) ∧ w'.cell? ⟨w2.heap.size, 1, none⟩ = some (.int .i64 S) ∧ w'.cell? ⟨w2.heap.size, 2, none⟩ = some (.int .i64 B) ∧ w'.cell? ⟨w3.heap.size, 0, none⟩ = some (.int .i64 s) ∧ w'.cell? ⟨w3.heap.size, 1, none⟩ = some (.int .u64 h8) ∧ w'.cell? ⟨w3.heap.size, 2, none⟩ = some (.int .i64 E) ∧ w'.cell? ⟨w3.heap.size, 3, none⟩ = some (.int .u64 r8) ∧ w'.cell? ⟨w3.heap.size, 4, none⟩ = some (.int .i64 T) ∧ w'.cell? ⟨w3.heap.size, 5, none⟩ = some (.int .u64 t8) ∧ w'.cell? ⟨w3.heap.size, 6, none⟩ = some (.slice (some ⟨b0, off0, none⟩) m m) ∧ w'.cell? ⟨w3.heap.size + 1, 0, none⟩ = some (.int .i64 s) ∧ w'.cell? ⟨w3.heap.size + 1, 1, none⟩ = some (.int .u64 h8) ∧ w'.cell? ⟨w3.heap.size + 1, 2, none⟩ = some (.int .i64 E) ∧ w'.cell? ⟨w3.heap.size + 1, 3, none⟩ = some (.int .u64 r8) ∧ w'.cell? ⟨w3.heap.size + 1, 4, none⟩ = some (.int .i64 T) ∧ w'.cell? ⟨w3.heap.size + 1, 5, none⟩ = some (.int .u64 t8) ∧ w'.cell? ⟨w3.heap.size + 1, 6, none⟩ = some (.slice ao7 l7 d7))
        (first
          | exact hcs.out _ hb13.out
          | exact hcs.out _ hb12.out
          | exact hcs.out _ hb11.out
          | exact hcs.out _ hb10.out
          | exact hcs.out _ hbd.out)
        (first
          | (go_at_call 14
             refine (both_any (mvW n zs) ((mvW n zs).take k ++ (mvW n zs).drop (k + 1)) _ _ _ _ _ _ _ _ _ _ _ _ _ _ _ _ _ _ _ (HR8.out.below hb12.out) (HQ8.out.below hb12.out) (by omega) (by omega)).mono ?_
             rintro e w13 ⟨v13, rfl, hown13, hbel13⟩
             rw [h3.out] at hown13
             obtain ⟨ao13, d13, rfl, _⟩ := RowIn.ofOwned hown13
             have hb13 : Hid (Below w8.heap.size w8 w13) := hide (hb12.out.trans (hbel13.mono hb12.out.size))
             clear hbel13 hown13)
          | (go_at_call 13
             refine (same_any _ _ _ _ _ _ _ _ _ _ _ _ _ _ _ _ _ _ _).mono ?_
             rintro e w12 ⟨rfl, hbel12⟩
             rw [sameB_self]
             have hb12 : Hid (Below w8.heap.size w8 w12) := hide (hb11.out.trans (hbel12.mono hb11.out.size))
             clear hbel12)
          | (go_at_call_of 11 (Value.agg #[.int .i64 s, .int .u64 h8, .int .i64 E, .int .u64 r8, .int .i64 T, .int .u64 t8, .slice ao7 l7 d7])
             refine (right_any ((mvW n zs).take k ++ (mvW n zs).drop (k + 1)) _ _ _ _ _ _ _ _ _ _ _ _ _ _ _ (HQ8.out.below hb10.out) (by omega) (by omega)).mono ?_
             rintro e w11 ⟨rfl, hbel11⟩
             rw [h2.out]
             have hb11 : Hid (Below w8.heap.size w8 w11) := hide (hb10.out.trans (hbel11.mono hb10.out.size))
             clear hbel11)
          | (go_at_call 11
             refine (right_any (mvW n zs) _ _ _ _ _ _ _ _ _ _ _ _ _ _ _ (HR8.out.below hbd.out) (by omega) (by omega)).mono ?_
             rintro e w10 ⟨rfl, hbel10⟩
             rw [h1.out]
             have hb10 : Hid (Below w8.heap.size w8 w10) := hide (hbd.out.trans hbel10)
             clear hbel10))
      all_goals
        go_wp2
        go_ret
        exact ⟨rfl, HN8.out.trans (hb13.out.mono HN8.out.size)⟩
  · have hd2 : ¬ k + 1 = d2 := fun e => hd e.symm
    have hk0 : (0 : Int) ≤ (k : Int) + 1 := by omega
    have htn : ((k : Int) + 1).toNat = k + 1 := by omega
    obtain ⟨w5, hw5⟩ : ∃ x, Hid ((w3.alloc (vobj s h8 E r8 T t8 (some ⟨b0, off0, none⟩) m d2)).alloc (vobj s h8 E r8 T t8 (some ⟨b0, off0, none⟩) m d2) = x) := ⟨_, rfl⟩
    have HX5 := hide ((VAt.lit w3 w3.heap.size rfl s h8 E r8 T t8 (some ⟨b0, off0, none⟩) m d2).alloc (vobj s h8 E r8 T t8 (some ⟨b0, off0, none⟩) m d2))
    have HT5 := hide (VAt.lit (w3.alloc (vobj s h8 E r8 T t8 (some ⟨b0, off0, none⟩) m d2)) (w3.heap.size + 1) (by simp) s h8 E r8 T t8 (some ⟨b0, off0, none⟩) m d2)
    have hf5 : ((w3.alloc (vobj s h8 E r8 T t8 (some ⟨b0, off0, none⟩) m d2)).alloc (vobj s h8 E r8 T t8 (some ⟨b0, off0, none⟩) m d2)).frozen? ⟨w3.heap.size + 1, 6, none⟩ = false := by simp [go_sem]
    have HC5 := hide ((HC3.out.alloc (vobj s h8 E r8 T t8 (some ⟨b0, off0, none⟩) m d2)).alloc (vobj s h8 E r8 T t8 (some ⟨b0, off0, none⟩) m d2))
    have HR5 := hide ((HR3.out.alloc (vobj s h8 E r8 T t8 (some ⟨b0, off0, none⟩) m d2)).alloc (vobj s h8 E r8 T t8 (some ⟨b0, off0, none⟩) m d2))
    have HN5 := hide ((HN3.out.alloc HN3.out.size (vobj s h8 E r8 T t8 (some ⟨b0, off0, none⟩) m d2)).alloc (by have := HN3.out.size; simp; omega) (vobj s h8 E r8 T t8 (some ⟨b0, off0, none⟩) m d2))
    have hs5 : w3.heap.size + 1 < ((w3.alloc (vobj s h8 E r8 T t8 (some ⟨b0, off0, none⟩) m d2)).alloc (vobj s h8 E r8 T t8 (some ⟨b0, off0, none⟩) m d2)).heap.size := by simp
    have HN3s := HN3.out.size
    have hbm : w2.heap.size < w3.heap.size := hlt
    rw [hw5.out] at HX5 HT5 hf5 HC5 HR5 HN5 hs5
    go_wp2
    rw [hw5.out]
    clear hw5 HC3 HR3 HN3 p0 p1 p2
    have hcs : Hid (∀ w', Below w5.heap.size w5 w' → w'.cell? ⟨w3.heap.size, 6, none⟩ = some (.slice (some ⟨b0, off0, none⟩) m d2)) := fun w' hb' => (HX5.out.below hb').c6
    have hct : Hid (∀ w', Below w5.heap.size w5 w' → w'.cell? ⟨w3.heap.size + 1, 6, none⟩ = some (.slice (some ⟨b0, off0, none⟩) m d2) ∧ w'.frozen? ⟨w3.heap.size + 1, 6, none⟩ = false) := fun w' hb' =>
      ⟨(HT5.out.below hb').c6, (World.frozen?_of_block (a := ⟨w3.heap.size + 1, 6, none⟩) (hb'.block _ hs5)).trans hf5⟩
    have hcu : Hid (∀ w', Below w5.heap.size w5 w' → ∀ v, (w'.setCell ⟨w3.heap.size + 1, 6, none⟩ v).cell? ⟨w3.heap.size, 6, none⟩ = some (.slice (some ⟨b0, off0, none⟩) m d2)) := fun w' hb' v => ((HX5.out.below hb').set (by omega) v).c6
    have hb5d : Hid (Below w5.heap.size w5 w5.drew) := hide (Below.refl _ _).drew
    have HR5d : Hid (RowIn .i64 w5.drew (some ⟨b0, off0, none⟩) k d2 ((mvW n zs).take k)) := hide ((HR5.out.below hb5d.out).front k (by omega))
    have hs5d : w5.heap.size ≤ w5.drew.heap.size := Nat.le_refl _
    obtain ⟨l7, hl7⟩ : ∃ x, Hid (k + (m - (k + 1)) = x) := ⟨_, rfl⟩
    have hl7b : l7 + 1 = m := by rw [← hl7.out]; omega
    go_region_held3 (fun w' => w'.cell? ⟨w3.heap.size, 6, none⟩ = some (.slice (some ⟨b0, off0, none⟩) m d2))
      (first
        | exact hcu.out _ hb7.out _
        | exact hcs.out _ hb7.out
        | exact hcs.out _ hb6.out
        | exact hcs.out _ hb5d.out)
      (first
        | (refine step_append_rows rfl (.tmp 29) (.tmp 34) 28 rfl w5.heap.size 3 i0 .i64 (.int .i64 0) 8 Try.underlying28 hi hz0 hz1 hz2 rfl (.slice ao6 k d6) k ((mvW n zs).take k) rfl H6.out (some ⟨b0, off0 + (k + 1), none⟩) (m - (k + 1)) (d2 - (k + 1)) ((mvW n zs).drop (k + 1)) rfl ((HR5.out.below hb6.out).behind (k + 1) (by omega)) (by unfold maxLen; omega) (by omega) hb6.out.size ?_
           intro ao7 d7 w7 hown7 hgrow7
           rw [hl7.out] at hown7
           rw [hl7.out]
           have hb7 : Hid (Below w5.heap.size w5 w7) := hb6.out.grown hgrow7 hb6.out.size (fun q h => (H6.out.lt q h).1)
           have H7 := hide (hown7)
           obtain ⟨e7, f7⟩ := hct.out _ hb7.out
           clear hown7 hgrow7)
        | (refine step_append_rows rfl (.const (.slice none 0 0)) (.tmp 28) 28 rfl w5.heap.size 3 i0 .i64 (.int .i64 0) 8 Try.underlying28 hi hz0 hz1 hz2 rfl (.slice none 0 0) 0 [] rfl (World.ownsRow_nil _ _ _ _) (some ⟨b0, off0, none⟩) k d2 ((mvW n zs).take k) rfl HR5d.out (by unfold maxLen; omega) (by omega) hs5d ?_
           intro ao6 d6 w6 hown6 hgrow6
           rw [Nat.zero_add]
           rw [Nat.zero_add, List.nil_append] at hown6
           have hb6 : Hid (Below w5.heap.size w5 w6) := hb5d.out.grown hgrow6 (Nat.le_refl _) (fun q h => by cases h)
           have H6 := hide (hown6)
           clear hown6 hgrow6))
    all_goals
      have HX8 := hide ((HX5.out.below hb7.out).set (show w3.heap.size ≠ w3.heap.size + 1 by omega) (i := 6) (.slice ao7 l7 d7))
      have HT8 := hide ((HT5.out.below hb7.out).set6 ao7 l7 d7)
      have HC8 := hide ((HC5.out.below hb7.out).set (show w2.heap.size ≠ w3.heap.size + 1 by omega) (i := 6) (.slice ao7 l7 d7))
      have HR8 := hide ((HR5.out.below hb7.out).set e7 (.slice ao7 l7 d7))
      have HQ8 : Hid (RowIn .i64 (w7.setCell ⟨w3.heap.size + 1, 6, none⟩ (.slice ao7 l7 d7)) ao7 l7 d7 ((mvW n zs).take k ++ (mvW n zs).drop (k + 1))) := by
        obtain ⟨ao', c', e', R⟩ := RowIn.ofOwned (ownsRow_setCell_below H7.out (a := ⟨w3.heap.size + 1, 6, none⟩) hs5 (.slice ao7 l7 d7))
        cases e'
        exact hide R
      have HN8 : Hid (Below w.heap.size w (w7.setCell ⟨w3.heap.size + 1, 6, none⟩ (.slice ao7 l7 d7))) := hide ((HN5.out.trans (hb7.out.mono HN5.out.size)).setCell (show w.heap.size ≤ w3.heap.size + 1 by have := HN3s; omega) (.slice ao7 l7 d7))
      obtain ⟨w8, hw8⟩ : ∃ x, Hid (w7.setCell ⟨w3.heap.size + 1, 6, none⟩ (.slice ao7 l7 d7) = x) := ⟨_, rfl⟩
      rw [hw8.out] at HX8 HT8 HC8 HR8 HQ8 HN8
      try rw [hw8.out]
      clear hw8 e7 f7 H7 hb7 HX5 HT5 HC5 HR5 HR5d HN5 hcs hct hcu hb5d hf5
      have hYl : ((mvW n zs).take k ++ (mvW n zs).drop (k + 1)).length = l7 := HQ8.out.len
      obtain ⟨bb, hbb1⟩ : ∃ x, decide (0 < l7) = x := ⟨_, rfl⟩
      have hbb2 : decide (0 < (l7 : Int)) = bb := by rw [← hbb1]; exact decide_eq_decide.2 (by omega)
      have hTm : Hid (timesB s E T S = true) := by
        have e1 := timesB_made a1_0 a1_2 S
        rw [hT.out, hs0.out, hE.out, decide_eq_true hTb.1] at e1
        exact hide e1
      have h1 : Hid ((whoB (mvW n zs) n && timesB s E T S) = true) := hide (by rw [hW.out, hTm.out]; rfl)
      have h2 : Hid ((whoB ((mvW n zs).take k ++ (mvW n zs).drop (k + 1)) n && timesB s E T S) = bb) := hide (by rw [hTm.out, Bool.and_true, fewer_who _ _ _ hW.out, hYl, hbb1])
      have h3 : Hid ((bth (mvW n zs) ((mvW n zs).take k ++ (mvW n zs).drop (k + 1))).length = l7) := hide (by rw [fewer_both _ _ (mvW_lt n zs), hYl])
      have hcs : Hid (∀ w', Below w8.heap.size w8 w' → w'.cell? ⟨w2.heap.size, 0, none⟩ = some (.slice ao n d) ∧ w'.cell? ⟨w2.heap.size, 1, none⟩ = some (.int .i64 S) ∧ w'.cell? ⟨w2.heap.size, 2, none⟩ = some (.int .i64 B) ∧ w'.cell? ⟨w3.heap.size, 0, none⟩ = some (.int .i64 s) ∧ w'.cell? ⟨w3.heap.size, 1, none⟩ = some (.int .u64 h8) ∧ w'.cell? ⟨w3.heap.size, 2, none⟩ = some (.int .i64 E) ∧ w'.cell? ⟨w3.heap.size, 3, none⟩ = some (.int .u64 r8) ∧ w'.cell? ⟨w3.heap.size, 4, none⟩ = some (.int .i64 T) ∧ w'.cell? ⟨w3.heap.size, 5, none⟩ = some (.int .u64 t8) ∧ w'.cell? ⟨w3.heap.size, 6, none⟩ = some (.slice (some ⟨b0, off0, none⟩) m d2) ∧ w'.cell? ⟨w3.heap.size + 1, 0, none⟩ = some (.int .i64 s) ∧ w'.cell? ⟨w3.heap.size + 1, 1, none⟩ = some (.int .u64 h8) ∧ w'.cell? ⟨w3.heap.size + 1, 2, none⟩ = some (.int .i64 E) ∧ w'.cell? ⟨w3.heap.size + 1, 3, none⟩ = some (.int .u64 r8) ∧ w'.cell? ⟨w3.heap.size + 1, 4, none⟩ = some (.int .i64 T) ∧ w'.cell? ⟨w3.heap.size + 1, 5, none⟩ = some (.int .u64 t8) ∧ w'.cell? ⟨w3.heap.size + 1, 6, none⟩ = some (.slice ao7 l7 d7)) := fun w' hb' =>
        have C := HC8.out.below hb'
        have V := HX8.out.below hb'
        have K := HT8.out.below hb'
        ⟨C.c0, C.c1, C.c2, V.c0, V.c1, V.c2, V.c3, V.c4, V.c5, V.c6, K.c0, K.c1, K.c2, K.c3, K.c4, K.c5, K.c6⟩
      have hbd : Hid (Below w8.heap.size w8 w8.drew) := hide (Below.refl _ _).drew
      go_wp2
      go_region_held3 (fun w' => w'.cell? ⟨w2.heap.size, 0, none⟩ = some (.slice ao n d) ∧ w'.cell? ⟨w2.heap.size, 1, none⟩ = some (.int .i64 S) ∧ w'.cell? ⟨w2.heap.size, 2, none⟩ = some (.int .i64 B) ∧ w'.cell? ⟨w3.heap.size, 0, none⟩ = some (.int .i64 s) ∧ w'.cell? ⟨w3.heap.size, 1, none⟩ = some (.int .u64 h8) ∧ w'.cell? ⟨w3.heap.size, 2, none⟩ = some (.int .i64 E) ∧ w'.cell? ⟨w3.heap.size, 3, none⟩ = some (.int .u64 r8) ∧ w'.cell? ⟨w3.heap.size, 4, none⟩ = some (.int .i64 T) ∧ w'.cell? ⟨w3.heap.size, 5, none⟩ = some (.int .u64 t8) ∧ w'.cell? ⟨w3.heap.size, 6, none⟩ = some (.slice (some ⟨b0, off0, none⟩) m d2) ∧ w'.cell? ⟨w3.heap.size + 1, 0, none⟩ = some (.int .i64 s) ∧ w'.cell? ⟨w3.heap.size + 1, 1, none⟩ = some (.int .u64 h8) ∧ w'.cell? ⟨w3.heap.size + 1, 2, none⟩ = some (.int .i64 E) ∧ w'.cell? ⟨w3.heap.size + 1, 3, none⟩ = some (.int .u64 r8) ∧ w'.cell? ⟨w3.heap.size + 1, 4, none⟩ = some (.int .i64 T) ∧ w'.cell? ⟨w3.heap.size + 1, 5, none⟩ = some (.int .u64 t8) ∧ w'.cell? ⟨w3.heap.size + 1, 6, none⟩ = some (.slice ao7 l7 d7))
        (first
          | exact hcs.out _ hb13.out
          | exact hcs.out _ hb12.out
          | exact hcs.out _ hb11.out
          | exact hcs.out _ hb10.out
          | exact hcs.out _ hbd.out)
        (first
          | (go_at_call 14
             refine (both_any (mvW n zs) ((mvW n zs).take k ++ (mvW n zs).drop (k + 1)) _ _ _ _ _ _ _ _ _ _ _ _ _ _ _ _ _ _ _ (HR8.out.below hb12.out) (HQ8.out.below hb12.out) (by omega) (by omega)).mono ?_
             rintro e w13 ⟨v13, rfl, hown13, hbel13⟩
             rw [h3.out] at hown13
             obtain ⟨ao13, d13, rfl, _⟩ := RowIn.ofOwned hown13
             have hb13 : Hid (Below w8.heap.size w8 w13) := hide (hb12.out.trans (hbel13.mono hb12.out.size))
             clear hbel13 hown13)
          | (go_at_call 13
             refine (same_any _ _ _ _ _ _ _ _ _ _ _ _ _ _ _ _ _ _ _).mono ?_
             rintro e w12 ⟨rfl, hbel12⟩
             rw [sameB_self]
             have hb12 : Hid (Below w8.heap.size w8 w12) := hide (hb11.out.trans (hbel12.mono hb11.out.size))
             clear hbel12)
          | (go_at_call_of 11 (Value.agg #[.int .i64 s, .int .u64 h8, .int .i64 E, .int .u64 r8, .int .i64 T, .int .u64 t8, .slice ao7 l7 d7])
             refine (right_any ((mvW n zs).take k ++ (mvW n zs).drop (k + 1)) _ _ _ _ _ _ _ _ _ _ _ _ _ _ _ (HQ8.out.below hb10.out) (by omega) (by omega)).mono ?_
             rintro e w11 ⟨rfl, hbel11⟩
             rw [h2.out]
             have hb11 : Hid (Below w8.heap.size w8 w11) := hide (hb10.out.trans (hbel11.mono hb10.out.size))
             clear hbel11)
          | (go_at_call 11
             refine (right_any (mvW n zs) _ _ _ _ _ _ _ _ _ _ _ _ _ _ _ (HR8.out.below hbd.out) (by omega) (by omega)).mono ?_
             rintro e w10 ⟨rfl, hbel10⟩
             rw [h1.out]
             have hb10 : Hid (Below w8.heap.size w8 w10) := hide (hbd.out.trans hbel10)
             clear hbel10))
      all_goals
        go_wp2
        go_ret
        exact ⟨rfl, HN8.out.trans (hb13.out.mono HN8.out.size)⟩

set_option maxRecDepth 100000 in
theorem lifted (os : Os) (started : os.Started) (H : Type) (enc : TypeId × Value → H) :
    ReturnsInHanded {} Try.checked os 6 .any (Rows.voteFewerSpec.pre6 enc Try.prog Try.f6 Rows.voteFewerRow.domain false) (Rows.voteFewerSpec.post enc Try.prog Try.f6 false true false false) := by
  refine returnsInHanded_of_change (C := Try.checked) own started (by kernel_rfl) Try.func6
    (ChangeSpec.witness6 (enc := enc) (C := Try.checked) false ⟨#[], #[.agg #[.slice none 0 0, .int .i64 0, .int .i64 0], .agg #[.int .i64 0, .int .u64 0, .int .i64 0, .int .u64 0, .int .i64 0, .int .u64 0, .slice none 0 0], .int .u8 0], []⟩ 8 (by kernel_rfl) (by kernel_rfl) (by kernel_rfl) (by kernel_rfl)) ?_
  intro W base args ds gs before hval0 hW hcnd _
  have hval : ∀ (j : Nat) t v, Try.f6.params[j]? = some t → args[j]? = some v → Value.okWide Try.prog W .any base t v := hval0
  have hW' := hW
  obtain ⟨p, q, hA0, hV, rfl, hfz, hnd⟩ := hW
  have hA : DataW.TrodAll enc Try.prog W 0 (fun _ => true) true Try.f6.params.toList args.toList ds p := hA0
  rw [Try.params6] at hA hval
  obtain ⟨v0, vs0, d0, ds0, p0, q0, hargs, rfl, rfl, h0, r0⟩ := trodAll_cons hA
  obtain ⟨v1, vs1, d1, ds1, p1, q1, rfl, rfl, rfl, h1, r1⟩ := trodAll_cons r0
  obtain ⟨v2, vs2, d2, ds2, p2, q2, rfl, rfl, rfl, h2, r2⟩ := trodAll_cons r1
  obtain ⟨rfl, rfl, rfl⟩ := trodAll_nil r2
  obtain rfl : args = #[v0, v1, v2] := by cases args; simp_all
  obtain ⟨rfl, rfl⟩ := trodVars_none hV
  obtain ⟨cs0, rfl, sz0⟩ := okWide_struct Try.underlying24 (hval 0 24 v0 rfl rfl)
  rw [cells24] at sz0
  obtain ⟨l0⟩ := cs0
  obtain ⟨c0_0, c0_1, c0_2, rfl⟩ := list3 (show l0.length = 3 from sz0)
  clear sz0
  have k0 := h0
  have lt0 : ∀ x ∈ p0, x.block < W.heap.size := by obtain ⟨m, hm⟩ := k0; exact DataW.trod_lt m _ _ _ hm
  obtain ⟨fuel0, hf0⟩ := h0
  simp only [Value.cells] at hf0
  obtain ⟨xs0_0t24, n0_0t24, _, hx0_0t24, _, hlen0_0t24, hf0_0t24⟩ := DataW.trod_struct Try.underlying24 hf0
  obtain ⟨y0_0t24_0, y0_0t24_1, y0_0t24_2, rfl⟩ := list3 (show xs0_0t24.length = 3 from hlen0_0t24)
  have hy0_0t24_0 : DataW.trod enc Try.prog W 0 (fun _ => true) true n0_0t24 22 [c0_0] = some y0_0t24_0 := by simpa [Value.cells, cells3, cells4, cells5, cells22, cells24, cells25, cells27, cells28, cells30] using hf0_0t24 0 _ rfl
  have hy0_0t24_1 : DataW.trod enc Try.prog W 0 (fun _ => true) true n0_0t24 3 [c0_1] = some y0_0t24_1 := by simpa [Value.cells, cells3, cells4, cells5, cells22, cells24, cells25, cells27, cells28, cells30] using hf0_0t24 1 _ rfl
  have hy0_0t24_2 : DataW.trod enc Try.prog W 0 (fun _ => true) true n0_0t24 3 [c0_2] = some y0_0t24_2 := by simpa [Value.cells, cells3, cells4, cells5, cells22, cells24, cells25, cells27, cells28, cells30] using hf0_0t24 2 _ rfl
  obtain ⟨a0_0, len0_0, cap0_0, z0_0, e0_0, w0_0⟩ : ∃ a len cap zs, c0_0 = .slice a len cap ∧ IsRow .u64 W a len cap zs := by
    rcases open_ints Try.underlying22 Try.underlying25 (by kernel_rfl) hy0_0t24_0 with ⟨hcs, _⟩ | ⟨x, l, c, zs, hcs, _, hl, hm, hz, _, hcell, hwz⟩
    · simp at hcs
      exact ⟨none, 0, 0, [], hcs, .inl ⟨rfl, rfl, rfl, rfl⟩⟩
    · simp at hcs
      exact ⟨_, _, _, zs, hcs, .inr ⟨_, rfl, hl, hm, by simpa using hz, hcell, hwz⟩⟩
  subst e0_0
  obtain ⟨a0_1, e0_1, x0_1, w0_1⟩ := DataW.trod_int Try.underlying3 hy0_0t24_1
  simp at e0_1
  subst e0_1
  obtain ⟨a0_2, e0_2, x0_2, w0_2⟩ := DataW.trod_int Try.underlying3 hy0_0t24_2
  simp at e0_2
  subst e0_2
  obtain ⟨cs1, rfl, sz1⟩ := okWide_struct Try.underlying30 (hval 1 30 v1 rfl rfl)
  rw [cells30] at sz1
  obtain ⟨l1⟩ := cs1
  obtain ⟨c1_0, c1_1, c1_2, c1_3, c1_4, c1_5, c1_6, rfl⟩ := list7 (show l1.length = 7 from sz1)
  clear sz1
  have k1 := h1
  have lt1 : ∀ x ∈ p1, x.block < W.heap.size := by obtain ⟨m, hm⟩ := k1; exact DataW.trod_lt m _ _ _ hm
  obtain ⟨fuel1, hf1⟩ := h1
  simp only [Value.cells] at hf1
  obtain ⟨xs1_0t30, n1_0t30, _, hx1_0t30, _, hlen1_0t30, hf1_0t30⟩ := DataW.trod_struct Try.underlying30 hf1
  obtain ⟨y1_0t30_0, y1_0t30_1, y1_0t30_2, y1_0t30_3, y1_0t30_4, rfl⟩ := list5 (show xs1_0t30.length = 5 from hlen1_0t30)
  have hy1_0t30_0 : DataW.trod enc Try.prog W 0 (fun _ => true) true n1_0t30 3 [c1_0] = some y1_0t30_0 := by simpa [Value.cells, cells3, cells4, cells5, cells22, cells24, cells25, cells27, cells28, cells30] using hf1_0t30 0 _ rfl
  have hy1_0t30_1 : DataW.trod enc Try.prog W 0 (fun _ => true) true n1_0t30 25 [c1_1] = some y1_0t30_1 := by simpa [Value.cells, cells3, cells4, cells5, cells22, cells24, cells25, cells27, cells28, cells30] using hf1_0t30 1 _ rfl
  have hy1_0t30_2 : DataW.trod enc Try.prog W 0 (fun _ => true) true n1_0t30 27 [c1_2, c1_3] = some y1_0t30_2 := by simpa [Value.cells, cells3, cells4, cells5, cells22, cells24, cells25, cells27, cells28, cells30] using hf1_0t30 2 _ rfl
  have hy1_0t30_3 : DataW.trod enc Try.prog W 0 (fun _ => true) true n1_0t30 27 [c1_4, c1_5] = some y1_0t30_3 := by simpa [Value.cells, cells3, cells4, cells5, cells22, cells24, cells25, cells27, cells28, cells30] using hf1_0t30 3 _ rfl
  have hy1_0t30_4 : DataW.trod enc Try.prog W 0 (fun _ => true) true n1_0t30 28 [c1_6] = some y1_0t30_4 := by simpa [Value.cells, cells3, cells4, cells5, cells22, cells24, cells25, cells27, cells28, cells30] using hf1_0t30 4 _ rfl
  obtain ⟨a1_0, e1_0, x1_0, w1_0⟩ := DataW.trod_int Try.underlying3 hy1_0t30_0
  simp at e1_0
  subst e1_0
  obtain ⟨a1_1, e1_1, x1_1, w1_1⟩ := DataW.trod_int Try.underlying25 hy1_0t30_1
  simp at e1_1
  subst e1_1
  obtain ⟨xs1_2t27, n1_2t27, _, hx1_2t27, _, hlen1_2t27, hf1_2t27⟩ := DataW.trod_struct Try.underlying27 hy1_0t30_2
  obtain ⟨y1_2t27_0, y1_2t27_1, rfl⟩ := list2 (show xs1_2t27.length = 2 from hlen1_2t27)
  have hy1_2t27_0 : DataW.trod enc Try.prog W 0 (fun _ => true) true n1_2t27 3 [c1_2] = some y1_2t27_0 := by simpa [Value.cells, cells3, cells4, cells5, cells22, cells24, cells25, cells27, cells28, cells30] using hf1_2t27 0 _ rfl
  have hy1_2t27_1 : DataW.trod enc Try.prog W 0 (fun _ => true) true n1_2t27 25 [c1_3] = some y1_2t27_1 := by simpa [Value.cells, cells3, cells4, cells5, cells22, cells24, cells25, cells27, cells28, cells30] using hf1_2t27 1 _ rfl
  obtain ⟨a1_2, e1_2, x1_2, w1_2⟩ := DataW.trod_int Try.underlying3 hy1_2t27_0
  simp at e1_2
  subst e1_2
  obtain ⟨a1_3, e1_3, x1_3, w1_3⟩ := DataW.trod_int Try.underlying25 hy1_2t27_1
  simp at e1_3
  subst e1_3
  obtain ⟨xs1_4t27, n1_4t27, _, hx1_4t27, _, hlen1_4t27, hf1_4t27⟩ := DataW.trod_struct Try.underlying27 hy1_0t30_3
  obtain ⟨y1_4t27_0, y1_4t27_1, rfl⟩ := list2 (show xs1_4t27.length = 2 from hlen1_4t27)
  have hy1_4t27_0 : DataW.trod enc Try.prog W 0 (fun _ => true) true n1_4t27 3 [c1_4] = some y1_4t27_0 := by simpa [Value.cells, cells3, cells4, cells5, cells22, cells24, cells25, cells27, cells28, cells30] using hf1_4t27 0 _ rfl
  have hy1_4t27_1 : DataW.trod enc Try.prog W 0 (fun _ => true) true n1_4t27 25 [c1_5] = some y1_4t27_1 := by simpa [Value.cells, cells3, cells4, cells5, cells22, cells24, cells25, cells27, cells28, cells30] using hf1_4t27 1 _ rfl
  obtain ⟨a1_4, e1_4, x1_4, w1_4⟩ := DataW.trod_int Try.underlying3 hy1_4t27_0
  simp at e1_4
  subst e1_4
  obtain ⟨a1_5, e1_5, x1_5, w1_5⟩ := DataW.trod_int Try.underlying25 hy1_4t27_1
  simp at e1_5
  subst e1_5
  obtain ⟨a1_6, len1_6, cap1_6, z1_6, e1_6, w1_6⟩ : ∃ a len cap zs, c1_6 = .slice a len cap ∧ IsRow .i64 W a len cap zs := by
    rcases open_ints Try.underlying28 Try.underlying3 (by kernel_rfl) hy1_0t30_4 with ⟨hcs, _⟩ | ⟨x, l, c, zs, hcs, _, hl, hm, hz, _, hcell, hwz⟩
    · simp at hcs
      exact ⟨none, 0, 0, [], hcs, .inl ⟨rfl, rfl, rfl, rfl⟩⟩
    · simp at hcs
      exact ⟨_, _, _, zs, hcs, .inr ⟨_, rfl, hl, hm, by simpa using hz, hcell, hwz⟩⟩
  subst e1_6
  obtain ⟨a2, rfl, rfl, rfl, w2⟩ := open_int Try.underlying5 (hval 2 5 v2 rfl rfl) h2
  clear hA0 hval0
  refine (walk a0_0 len0_0 cap0_0 z0_0 a0_1 a0_2 a1_0 a1_1 a1_2 a1_3 a1_4 a1_5 a1_6 len1_6 cap1_6 z1_6 a2 W w0_0 w0_1 w0_2 w1_0 w1_1 w1_2 w1_3 w1_4 w1_5 w1_6 w2).mono fun e W' ⟨he, bel⟩ => ?_
  subst he
  exact ⟨_, rfl, _, _, _, [], _, [], hW', trodAll_mk1 (shut_bool Try.underlying4 _), (trodAll_cons_mk (Below.trod laidOut (by kernel_rfl) (of_decide_eq_true (by kernel_rfl)) k0 bel lt0) (trodAll_cons_mk (Below.trod laidOut (by kernel_rfl) (of_decide_eq_true (by kernel_rfl)) k1 bel lt1) (trodAll_cons_mk (shut_int Try.underlying5 w2) trodAll_mk0))), rfl, bel.frame _, fun h => by cases h⟩

theorem over : Rows.voteFewerRow.holds Try.pinned (OpenSpec.ofChange Rows.voteFewerSpec) :=
  OpenClaim.holds_of_wide 6 Try.f6 rfl rfl rfl rfl rfl rfl rfl ⟨rfl, rfl, rfl, rfl, rfl⟩ rfl rfl rfl rfl rfl (by kernel_rfl) Try.func6 (by kernel_rfl)
    (of_decide_eq_true (by kernel_rfl)) (by unfold Func.isWrapper; first | (rw [if_pos (by decide +kernel)]; kernel_rfl) | (rw [if_neg (by decide +kernel)]; exact ⟨rfl, rfl⟩))
    (fun os started H enc _ => lifted os started H enc)

theorem proved : Rows.VoteFewerSaid := over
end Go.Proofs.Ytnofpmdnpfijnaa.voteFewer

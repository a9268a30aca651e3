/-
  whether a vote may be is what the document says (VoteRight is true of every input).
-/
import Derived.Test.YtnofpmdnpfijnaaRows

import Derived.WalkKit

import Derived.Below

import Derived.ProofKit

import Derived.OpenShut

import Derived.ShutString

import Derived.ChangeOld

import Derived.Test.YtnofpmdnpfijnaaVAt

import Derived.Deep.CutRange

namespace Go.Proofs.Ytnofpmdnpfijnaa.voteRight

open Go.ChangeShapes Go.WideShapes Go.ChangeAt Go.RowKit

set_option linter.unusedVariables false

theorem own : ownKnob Try.prog.godebug = none := by kernel_rfl
theorem laidOut : laidOutB Try.prog = true := by kernel_rfl
theorem cells3 : Try.prog.cellsOf 3 = 1 := by kernel_rfl
theorem cells4 : Try.prog.cellsOf 4 = 1 := by kernel_rfl
theorem cells22 : Try.prog.cellsOf 22 = 1 := by kernel_rfl
theorem cells24 : Try.prog.cellsOf 24 = 3 := by kernel_rfl
theorem cells25 : Try.prog.cellsOf 25 = 1 := by kernel_rfl
theorem cells27 : Try.prog.cellsOf 27 = 2 := by kernel_rfl
theorem cells28 : Try.prog.cellsOf 28 = 1 := by kernel_rfl
theorem cells30 : Try.prog.cellsOf 30 = 7 := by kernel_rfl
theorem list2 {α : Type _} {l : List α} (h : l.length = 2) : ∃ x0 x1, l = [x0, x1] := by
  match l, h with
  | [x0, x1], _ => exact ⟨x0, x1, rfl⟩
theorem list3 {α : Type _} {l : List α} (h : l.length = 3) : ∃ x0 x1 x2, l = [x0, x1, x2] := by
  match l, h with
  | [x0, x1, x2], _ => exact ⟨x0, x1, x2, rfl⟩
theorem list5 {α : Type _} {l : List α} (h : l.length = 5) : ∃ x0 x1 x2 x3 x4, l = [x0, x1, x2, x3, x4] := by
  match l, h with
  | [x0, x1, x2, x3, x4], _ => exact ⟨x0, x1, x2, x3, x4, rfl⟩
theorem list7 {α : Type _} {l : List α} (h : l.length = 7) : ∃ x0 x1 x2 x3 x4 x5 x6, l = [x0, x1, x2, x3, x4, x5, x6] := by
  match l, h with
  | [x0, x1, x2, x3, x4, x5, x6], _ => exact ⟨x0, x1, x2, x3, x4, x5, x6, rfl⟩
theorem step_bad (n : Int) (zs : List Int) (k : Nat) (h : k < zs.length) (hb : zs.getD k 0 < 0 ∨ n ≤ zs.getD k 0 ∨ (0 < k ∧ zs.getD k 0 ≤ zs.getD (k - 1) 0)) : up n (-1) (zs.take (k + 1)) = false := by
  have e1 : zs.getD k 0 = zs[k] := by rw [List.getD_eq_getElem?_getD, List.getElem?_eq_getElem h]; rfl
  rw [e1] at hb
  apply Bool.eq_false_iff.2
  intro hu
  obtain ⟨h1, h2⟩ := lt_of_up n _ _ hu
  have h3 := h2 zs[k] (List.mem_take_iff_getElem.2 ⟨k, by omega, rfl⟩)
  rcases hb with hb | hb | ⟨h0, hb⟩
  · omega
  · omega
  · have e2 : zs.getD (k - 1) 0 = zs[k - 1] := by rw [List.getD_eq_getElem?_getD, List.getElem?_eq_getElem (show k - 1 < zs.length by omega)]; rfl
    rw [e2] at hb
    have h4 := List.pairwise_iff_getElem.1 h1 (k - 1) k (by simp; omega) (by simp; omega) (by omega)
    rw [List.getElem_take, List.getElem_take] at h4
    omega
theorem step_ok (n : Int) (zs : List Int) (k : Nat) (h : k < zs.length) (hb : 0 ≤ zs.getD k 0 ∧ zs.getD k 0 < n ∧ (0 < k → zs.getD (k - 1) 0 < zs.getD k 0)) : up n (-1) (zs.take (k + 1)) = up n (-1) (zs.take k) := by
  have e1 : zs.getD k 0 = zs[k] := by rw [List.getD_eq_getElem?_getD, List.getElem?_eq_getElem h]; rfl
  rw [e1] at hb
  rw [List.take_succ_eq_append_getElem h, up_snoc]
  have hl : (zs.take k).getLastD (-1) < zs[k] := by
    by_cases h0 : k = 0
    · subst h0
      simp only [List.take_zero, List.getLastD_nil]
      omega
    · have e2 : zs.getD (k - 1) 0 = zs[k - 1] := by rw [List.getD_eq_getElem?_getD, List.getElem?_eq_getElem (show k - 1 < zs.length by omega)]; rfl
      have h3 := hb.2.2 (by omega)
      rw [e2] at h3
      have e3 : (zs.take k).getLastD (-1) = zs[k - 1] := by
        rw [List.getLastD_eq_getLast?, List.getLast?_eq_getElem?, List.length_take, Nat.min_eq_left (by omega), List.getElem?_take_of_lt (by omega), List.getElem?_eq_getElem (show k - 1 < zs.length by omega)]
        rfl
      rw [e3]
      exact h3
  rw [decide_eq_true ⟨hl, hb.2.1⟩, Bool.and_true]

set_option maxHeartbeats 1000000 in
theorem walk (a0_0 : Option Addr) (len0_0 cap0_0 : Nat) (z0_0 : List Int) (a0_1 : Int) (a0_2 : Int) (a1_0 : Int) (a1_1 : Int) (a1_2 : Int) (a1_3 : Int) (a1_4 : Int) (a1_5 : Int) (a1_6 : Option Addr) (len1_6 cap1_6 : Nat) (z1_6 : List Int) (w : World) (w0_0 : IsRow .u64 w a0_0 len0_0 cap0_0 z0_0) (w0_1 : (Lit.int .i64 a0_1).wf = true) (w0_2 : (Lit.int .i64 a0_2).wf = true) (w1_0 : (Lit.int .i64 a1_0).wf = true) (w1_1 : (Lit.int .u64 a1_1).wf = true) (w1_2 : (Lit.int .i64 a1_2).wf = true) (w1_3 : (Lit.int .u64 a1_3).wf = true) (w1_4 : (Lit.int .i64 a1_4).wf = true) (w1_5 : (Lit.int .u64 a1_5).wf = true) (w1_6 : IsRow .i64 w a1_6 len1_6 cap1_6 z1_6) :
    Calls Try.prog 3 #[.agg #[.slice a0_0 len0_0 cap0_0, .int .i64 a0_1, .int .i64 a0_2], .agg #[.int .i64 a1_0, .int .u64 a1_1, .int .i64 a1_2, .int .u64 a1_3, .int .i64 a1_4, .int .u64 a1_5, .slice a1_6 len1_6 cap1_6]] w fun e w' => e = .returned (.bool true) ∧ Below w.heap.size w w' := by
  have hB := w0_0.row
  have hu := w0_0.u64
  have hs := wf_i64 w0_1
  have hb := wf_i64 w0_2
  have hZ := w1_6.row
  have hv0 := wf_i64 w1_0
  have hv1 := wf_u64 w1_1
  have hv2 := wf_i64 w1_2
  have hv3 := wf_u64 w1_3
  have hv5 := wf_u64 w1_5
  clear w0_0 w0_1 w0_2 w1_0 w1_1 w1_2 w1_3 w1_4 w1_5 w1_6
  generalize z0_0.take len0_0 = bs at *
  generalize z1_6.take len1_6 = zs at *
  have HU := hide hu
  have HB := hide ((hB.alloc (cfg a0_0 len0_0 cap0_0 a0_1 a0_2)).alloc (vobj a1_0 a1_1 a1_2 a1_3 a1_4 a1_5 a1_6 len1_6 cap1_6))
  have HZ := hide ((hZ.alloc (cfg a0_0 len0_0 cap0_0 a0_1 a0_2)).alloc (vobj a1_0 a1_1 a1_2 a1_3 a1_4 a1_5 a1_6 len1_6 cap1_6))
  have HC := hide ((CAt.lit w w.heap.size rfl a0_0 len0_0 cap0_0 a0_1 a0_2).alloc (vobj a1_0 a1_1 a1_2 a1_3 a1_4 a1_5 a1_6 len1_6 cap1_6))
  have HV := hide (VAt.lit (w.alloc (cfg a0_0 len0_0 cap0_0 a0_1 a0_2)) (w.heap.size + 1) (by simp) a1_0 a1_1 a1_2 a1_3 a1_4 a1_5 a1_6 len1_6 cap1_6)
  have HN := hide (((Below.refl _ w).alloc (Nat.le_refl _) (cfg a0_0 len0_0 cap0_0 a0_1 a0_2)).alloc (by simp) (vobj a1_0 a1_1 a1_2 a1_3 a1_4 a1_5 a1_6 len1_6 cap1_6))
  clear hB hu hZ
  have hSb := mkS_b a0_1
  have hlb := mkBs_len bs
  obtain ⟨S, hS⟩ : ∃ x, Hid (mkS a0_1 = x) := ⟨_, rfl⟩
  obtain ⟨B, hB⟩ : ∃ x, Hid (mkB a0_2 = x) := ⟨_, rfl⟩
  obtain ⟨n, hn⟩ : ∃ x, Hid ((mkBs bs).length = x) := ⟨_, rfl⟩
  rw [hS.out] at hSb
  rw [hn.out] at hlb
  have hTb := epo_made a1_0 S hSb
  have hwb := mvW_len n zs hlb.1
  obtain ⟨T, hT⟩ : ∃ x, Hid (epo (a1_0 % 200) S = x) := ⟨_, rfl⟩
  obtain ⟨s, hs0⟩ : ∃ x, Hid (a1_0 % 200 = x) := ⟨_, rfl⟩
  obtain ⟨E, hE⟩ : ∃ x, Hid (a1_2 % (T + 1) = x) := ⟨_, rfl⟩
  obtain ⟨h8, hh8⟩ : ∃ x, Hid (a1_1 % 8 = x) := ⟨_, rfl⟩
  obtain ⟨r8, hr8⟩ : ∃ x, Hid (a1_3 % 8 = x) := ⟨_, rfl⟩
  obtain ⟨t8, ht8⟩ : ∃ x, Hid (a1_5 % 8 = x) := ⟨_, rfl⟩
  obtain ⟨m, hm0⟩ : ∃ x, Hid ((mvW n zs).length = x) := ⟨_, rfl⟩
  rw [hT.out] at hTb
  rw [hm0.out] at hwb
  have hsb : 0 ≤ s ∧ s < 200 := by rw [← hs0.out]; omega
  have hT2 : Hid (epo s S = T) := by rw [← hs0.out]; exact hT
  have hW := hide (whoB_mvW n zs hlb.1)
  obtain ⟨mx, hmx⟩ : ∃ x : Int, (if 1 < a0_1 then a0_1 else 1) = x := ⟨_, rfl⟩
  have hmx0 : lo1 a0_1 = mx := by rw [← hmx]; unfold lo1; split <;> split <;> omega
  have hmxb : 1 ≤ mx ∧ mx ≤ 9223372036854775807 := by rw [← hmx0]; exact lo1_b hs
  have hmxw : IntKind.i64.wrap mx = mx := by rw [IntKind.wrap_i64]; omega
  have hmxn : ¬ mx = 0 := by omega
  have hmx2 : max 1 a0_1 = mx := by rw [← hmx]; split <;> omega
  have HMX := hide hmx0
  have hzl := HZ.out.len
  have hzc := HZ.out.cap
  unfold maxLen at hzc
  clear hmx0
  obtain ⟨want, hwant⟩ : ∃ x, Hid ((whoB zs len0_0 && timesB a1_0 a1_2 a1_4 a0_1) = x) := ⟨_, rfl⟩
  go_enter Try.func3, Try.ntmps3
  go_wp2_with fail
  refine (awake_any _).mono ?_
  rintro e w1 ⟨rfl, hbel⟩
  have HB1 := hide (HB.out.below hbel)
  have HZ1 := hide (HZ.out.below hbel)
  have HC1 := hide (HC.out.below hbel)
  have HV1 := hide (HV.out.below hbel)
  have HN1 := hide (HN.out.trans (hbel.mono (by simp <;> omega)))
  clear HB HZ HC HV HN hbel
  obtain ⟨hlt, p0, p1, p2⟩ := HC1.out
  obtain ⟨hlt1, q0, q1, q2, q3, q4, q5, q6⟩ := HV1.out
  go_wp2
  go_loop [5, 19] (fun r i => ∃ (k : Nat) (b : Bool), k ≤ len1_6 ∧ i = .int .i64 k ∧ r = .bool b ∧ Hid ((decide (0 < zs.length) && up len0_0 (-1) (zs.take k)) = b)) (fun r i => len1_6 - (intOf i).toNat)
  case atStart =>
    refine ⟨0, _, Nat.zero_le _, rfl, rfl, hide ?_⟩
    rw [List.take_zero, up, Bool.and_true, hzl]
  case round =>
    obtain ⟨k, b, hk, rfl, rfl, hI⟩ := hrel
    by_cases hlt2 : k < len1_6
    · obtain ⟨g, off, rfl, hbs, hcn⟩ := HZ1.out.cell k hlt2
      have hbad := step_bad len0_0 zs k (by omega)
      have hok := step_ok len0_0 zs k (by omega)
      obtain ⟨x, hx⟩ : ∃ x, Hid (zs.getD k 0 = x) := ⟨_, rfl⟩
      rw [hx.out] at hcn hbad hok
      by_cases h1 : x < 0
      · have HST : Hid ((decide (0 < zs.length) && up len0_0 (-1) (zs.take (k + 1))) = false) := hide (by rw [hbad (.inl h1), Bool.and_false])
        clear hbad hok
        go_wp2
        go_round
        case rel => exact ⟨k + 1, _, by omega, by go_num, rfl, HST⟩
        case measure => simp [intOf]; omega
      · by_cases h2 : (len0_0 : Int) ≤ x
        · have HST : Hid ((decide (0 < zs.length) && up len0_0 (-1) (zs.take (k + 1))) = false) := hide (by rw [hbad (.inr (.inl h2)), Bool.and_false])
          clear hbad hok
          go_wp2
          go_round
          case rel => exact ⟨k + 1, _, by omega, by go_num, rfl, HST⟩
          case measure => simp [intOf]; omega
        · have hd2 : decide ((len0_0 : Int) ≤ x) = false := decide_eq_false h2
          by_cases h3 : 0 < (k : Int)
          · obtain ⟨g', off', e', _, hcp⟩ := HZ1.out.cell (k - 1) (by omega)
            cases e'
            have hk1 : (k : Int) - 1 = ((k - 1 : Nat) : Int) := by omega
            have hw : IntKind.i64.wrap ((k : Int) - 1) = ((k - 1 : Nat) : Int) := by rw [IntKind.wrap_i64]; omega
            have hw2 : wrap64 ((k : Int) - 1) = ((k - 1 : Nat) : Int) := by unfold wrap64; omega
            have hkl : k - 1 < len1_6 := by omega
            obtain ⟨y, hy⟩ : ∃ x, Hid (zs.getD (k - 1) 0 = x) := ⟨_, rfl⟩
            rw [hy.out] at hcp hbad hok
            have hk0 : 0 < k := by omega
            obtain ⟨k1, hk1'⟩ : ∃ z, k - 1 = z := ⟨_, rfl⟩
            rw [hk1'] at hcp hw hw2 hkl
            clear hk1' hk1
            by_cases h4 : x ≤ y
            · have HST : Hid ((decide (0 < zs.length) && up len0_0 (-1) (zs.take (k + 1))) = false) := hide (by rw [hbad (.inr (.inr ⟨hk0, h4⟩)), Bool.and_false])
              clear hbad hok
              go_wp2
              go_round
              case rel => exact ⟨k + 1, _, by omega, by go_num, rfl, HST⟩
              case measure => simp [intOf]; omega
            · have HST : Hid ((decide (0 < zs.length) && up len0_0 (-1) (zs.take (k + 1))) = b) := hide (by rw [hok ⟨by omega, by omega, fun _ => by omega⟩]; exact hI.out)
              have hd4 : decide (x ≤ y) = false := decide_eq_false h4
              clear hbad hok
              go_wp2
              go_round
              case rel => exact ⟨k + 1, _, by omega, by go_num, rfl, HST⟩
              case measure => simp [intOf]; omega
          · have HST : Hid ((decide (0 < zs.length) && up len0_0 (-1) (zs.take (k + 1))) = b) := hide (by rw [hok ⟨by omega, by omega, fun h => absurd h (by omega)⟩]; exact hI.out)
            have hd3 : decide (0 < (k : Int)) = false := decide_eq_false h3
            clear hbad hok
            go_wp2
            go_round
            case rel => exact ⟨k + 1, _, by omega, by go_num, rfl, HST⟩
            case measure => simp [intOf]; omega
    · have : k = len1_6 := by omega
      subst this
      have hwho : Hid (whoB zs len0_0 = b) := by
        have := hI.out
        rw [List.take_of_length_le (by omega)] at this
        rw [whoB, Bool.and_comm]
        exact hide this
      clear hI
      go_upto_region 10 with fail
      go_cut [8] from 48 to 81 (fun c wx => c = .bool want ∧ Hid (Below w1.heap.size w1 wx))
      case first =>
        cases b with
        | false =>
          have HWT : Hid (false = want) := hide (by rw [← hwant.out, hwho.out, Bool.false_and])
          go_quiet (fail)
          go_wp2_with fail
          go_meet
          exact ⟨by rw [← HWT.out], hide (below_drewN (Below.refl _ _) _)⟩
        | true =>
          have hwt : timesB a1_0 a1_2 a1_4 a0_1 = want := by rw [← hwant.out, hwho.out, Bool.true_and]
          by_cases h1 : 0 ≤ a1_0
          · by_cases h2 : 0 ≤ a1_2
            · by_cases h3 : a1_2 ≤ a1_4
              · have hq := Int.tdiv_eq_ediv_of_nonneg (b := mx) h1
                have hq0 : epo a1_0 a0_1 = a1_0.tdiv mx := by rw [epo, HMX.out, lo0, if_neg (by omega), hq]
                have hqb : 0 ≤ a1_0.tdiv mx ∧ a1_0.tdiv mx ≤ 9223372036854775807 := by
                  rw [hq]
                  exact ⟨Int.ediv_nonneg h1 (by omega), Int.le_trans (Int.ediv_le_self _ h1) hv0.2⟩
                obtain ⟨q, hqq⟩ : ∃ q, a1_0.tdiv mx = q := ⟨_, rfl⟩
                have hqq2 : a1_0 / mx = q := by rw [← hqq, hq]
                clear hq
                rw [hqq] at hq0 hqb
                have hqw : IntKind.i64.wrap q = q := by rw [IntKind.wrap_i64]; omega
                by_cases h4 : a1_4 = q
                · have HWT : Hid (true = want) := hide (by rw [← hwt, timesB, hq0, decide_eq_true ⟨h1, h2, h3, h4⟩])
                  clear hwt hq0
                  subst h4
                  go_quiet (fail)
                  go_wp2_with fail
                  go_meet
                  exact ⟨by rw [← HWT.out], hide (below_drewN (Below.refl _ _) _)⟩
                · have HWT : Hid (false = want) := hide (by rw [← hwt, timesB, hq0, decide_eq_false (fun h => h4 h.2.2.2)])
                  have h4b : (a1_4 == q) = false := by simp [h4]
                  clear hwt hq0
                  go_quiet (fail)
                  go_wp2_with fail
                  go_meet
                  exact ⟨by rw [← HWT.out], hide (below_drewN (Below.refl _ _) _)⟩
              · have HWT : Hid (false = want) := hide (by rw [← hwt, timesB, decide_eq_false (fun h => h3 h.2.2.1)])
                have hd : decide (a1_2 ≤ a1_4) = false := decide_eq_false h3
                clear hwt
                go_quiet (fail)
                go_wp2_with fail
                go_meet
                exact ⟨by rw [← HWT.out], hide (below_drewN (Below.refl _ _) _)⟩
            · have HWT : Hid (false = want) := hide (by rw [← hwt, timesB, decide_eq_false (fun h => h2 h.2.1)])
              have hd : decide (0 ≤ a1_2) = false := decide_eq_false h2
              clear hwt
              go_quiet (fail)
              go_wp2_with fail
              go_meet
              exact ⟨by rw [← HWT.out], hide (below_drewN (Below.refl _ _) _)⟩
          · have HWT : Hid (false = want) := hide (by rw [← hwt, timesB, decide_eq_false (fun h => h1 h.1)])
            have hd : decide (0 ≤ a1_0) = false := decide_eq_false h1
            clear hwt
            go_quiet (fail)
            go_wp2_with fail
            go_meet
            exact ⟨by rw [← HWT.out], hide (below_drewN (Below.refl _ _) _)⟩
      case rest =>
        obtain ⟨rfl, hbel⟩ := hcut
        have HB2 := hide (HB1.out.below hbel.out)
        have HZ2 := hide (HZ1.out.below hbel.out)
        have HC2 := hide (HC1.out.below hbel.out)
        have HV2 := hide (HV1.out.below hbel.out)
        have HN2 := hide (HN1.out.trans (hbel.out.mono HN1.out.size))
        clear HB1 HZ1 HC1 HV1 HN1 hbel p0 p1 p2 q0 q1 q2 q3 q4 q5 q6 hlt hlt1 hmx hmx2 hmxw hmxn hmxb
        obtain ⟨hlt, p0, p1, p2⟩ := HC2.out
        go_wp2_with fail
        refine (make_any bs _ _ _ _ _ _ HB2.out HU.out hs hb).mono ?_
        rintro e w3 ⟨ao, d, rfl, hR, hbel⟩
        rw [hS.out, hB.out, hn.out]
        have HZ3 := hide ((HZ2.out.below hbel).alloc (cfg ao n d S B))
        have HV3 := hide ((HV2.out.below hbel).alloc (cfg ao n d S B))
        have HC3 := hide ((HC2.out.below hbel).alloc (cfg ao n d S B))
        have HM3 := hide (CAt.lit w3 w3.heap.size rfl ao n d S B)
        have HN3 := hide ((HN2.out.trans (hbel.mono HN2.out.size)).alloc (by have := HN2.out.size; have := hbel.size; omega) (cfg ao n d S B))
        clear HB2 HZ2 HC2 HV2 HN2 hbel p0 p1 p2 hlt hR
        go_wp2
        obtain ⟨w4, hw4⟩ : ∃ x, Hid (w3.alloc (cfg ao n d S B) = x) := ⟨_, rfl⟩
        rw [hw4.out] at HZ3 HV3 HC3 HM3 HN3
        rw [hw4.out]
        clear hw4
        obtain ⟨hlt, p0, p1, p2⟩ := HC3.out
        obtain ⟨hlt1, q0, q1, q2, q3, q4, q5, q6⟩ := HV3.out
        obtain ⟨hlt2, r0, r1, r2⟩ := HM3.out
        have hcs : Hid (∀ w', Below w4.heap.size w4 w' → w'.cell? ⟨w3.heap.size, 0, none⟩ = some (.slice ao n d) ∧ w'.cell? ⟨w3.heap.size, 1, none⟩ = some (.int .i64 S) ∧ w'.cell? ⟨w3.heap.size, 2, none⟩ = some (.int .i64 B) ∧ w'.cell? ⟨w.heap.size, 0, none⟩ = some (.slice a0_0 len0_0 cap0_0) ∧ w'.cell? ⟨w.heap.size, 1, none⟩ = some (.int .i64 a0_1) ∧ w'.cell? ⟨w.heap.size, 2, none⟩ = some (.int .i64 a0_2) ∧ w'.cell? ⟨w.heap.size + 1, 0, none⟩ = some (.int .i64 a1_0) ∧ w'.cell? ⟨w.heap.size + 1, 1, none⟩ = some (.int .u64 a1_1) ∧ w'.cell? ⟨w.heap.size + 1, 2, none⟩ = some (.int .i64 a1_2) ∧ w'.cell? ⟨w.heap.size + 1, 3, none⟩ = some (.int .u64 a1_3) ∧ w'.cell? ⟨w.heap.size + 1, 4, none⟩ = some (.int .i64 a1_4) ∧ w'.cell? ⟨w.heap.size + 1, 5, none⟩ = some (.int .u64 a1_5) ∧ w'.cell? ⟨w.heap.size + 1, 6, none⟩ = some (.slice a1_6 k cap1_6)) := fun w' hb' =>
          have C := HC3.out.below hb'
          have V := HV3.out.below hb'
          have M := HM3.out.below hb'
          ⟨M.c0, M.c1, M.c2, C.c0, C.c1, C.c2, V.c0, V.c1, V.c2, V.c3, V.c4, V.c5, V.c6⟩
        have hb4d : Hid (Below w4.heap.size w4 w4.drew) := hide (Below.refl _ _).drew
        have hRt : Hid ((whoB (mvW n zs) n && timesB s E T S) = true) := by
          have e1 := timesB_made a1_0 a1_2 S
          rw [hT.out, hs0.out, hE.out] at e1
          rw [hW.out, e1, decide_eq_true hTb.1]
          exact hide rfl
        go_region_held3 (fun w' => w'.cell? ⟨w3.heap.size, 0, none⟩ = some (.slice ao n d) ∧ w'.cell? ⟨w3.heap.size, 1, none⟩ = some (.int .i64 S) ∧ w'.cell? ⟨w3.heap.size, 2, none⟩ = some (.int .i64 B) ∧ w'.cell? ⟨w.heap.size, 0, none⟩ = some (.slice a0_0 len0_0 cap0_0) ∧ w'.cell? ⟨w.heap.size, 1, none⟩ = some (.int .i64 a0_1) ∧ w'.cell? ⟨w.heap.size, 2, none⟩ = some (.int .i64 a0_2) ∧ w'.cell? ⟨w.heap.size + 1, 0, none⟩ = some (.int .i64 a1_0) ∧ w'.cell? ⟨w.heap.size + 1, 1, none⟩ = some (.int .u64 a1_1) ∧ w'.cell? ⟨w.heap.size + 1, 2, none⟩ = some (.int .i64 a1_2) ∧ w'.cell? ⟨w.heap.size + 1, 3, none⟩ = some (.int .u64 a1_3) ∧ w'.cell? ⟨w.heap.size + 1, 4, none⟩ = some (.int .i64 a1_4) ∧ w'.cell? ⟨w.heap.size + 1, 5, none⟩ = some (.int .u64 a1_5) ∧ w'.cell? ⟨w.heap.size + 1, 6, none⟩ = some (.slice a1_6 k cap1_6))
          (first
            | exact hcs.out _ hb7.out
            | exact hcs.out _ hb6.out
            | exact hcs.out _ hb5.out
            | exact hcs.out _ hb4d.out)
          (first
            | (go_at_call_of 11 (Value.agg (vcells s h8 E r8 T t8 ao2 m d2))
               refine (right_any (mvW n zs) _ _ _ _ _ _ _ _ _ _ _ _ _ _ _ HR6.out (by omega) (by omega)).mono ?_
               rintro e w7 ⟨rfl, hbel7⟩
               rw [hRt.out]
               have hb7 : Hid (Below w4.heap.size w4 w7) := hide (hb6.out.trans (hbel7.mono hb6.out.size))
               clear hbel7)
            | (go_at_call 12
               refine (make5_any zs _ _ _ _ _ _ _ _ _ _ _ _ _ _ _ (HZ3.out.below hb5.out) hlb hSb hv0 hv1 hv2 hv3 hv5).mono ?_
               rintro e w6 ⟨ao2, d2, rfl, hR6, hbel6⟩
               rw [hT.out, hs0.out, hE.out, hh8.out, hr8.out, ht8.out, hm0.out]
               rw [hm0.out] at hR6
               have hb6 : Hid (Below w4.heap.size w4 w6) := hide (hb5.out.trans (hbel6.mono hb5.out.size))
               have HR6 := hide hR6
               clear hbel6 hR6)
            | (go_at_call 11
               refine (right_any zs _ _ _ _ _ _ _ _ _ _ _ _ _ _ _ (HZ3.out.below hb4d.out) hv0 hs).mono ?_
               rintro e w5 ⟨rfl, hbel5⟩
               rw [hwant.out]
               have hb5 : Hid (Below w4.heap.size w4 w5) := hide (hb4d.out.trans hbel5)
               clear hbel5))
        all_goals
          go_wp2
          go_ret
          exact ⟨rfl, HN3.out.trans (hb7.out.mono HN3.out.size)⟩

set_option maxRecDepth 100000 in
theorem lifted (os : Os) (started : os.Started) (H : Type) (enc : TypeId × Value → H) :
    ReturnsInHanded {} Try.checked os 3 .any (Rows.voteRightSpec.pre6 enc Try.prog Try.f3 Rows.voteRightRow.domain false) (Rows.voteRightSpec.post enc Try.prog Try.f3 false true false false) := by
  refine returnsInHanded_of_change (C := Try.checked) own started (by kernel_rfl) Try.func3
    (ChangeSpec.witness6 (enc := enc) (C := Try.checked) false ⟨#[], #[.agg #[.slice none 0 0, .int .i64 0, .int .i64 0], .agg #[.int .i64 0, .int .u64 0, .int .i64 0, .int .u64 0, .int .i64 0, .int .u64 0, .slice none 0 0]], []⟩ 8 (by kernel_rfl) (by kernel_rfl) (by kernel_rfl) (by kernel_rfl)) ?_
  intro W base args ds gs before hval0 hW hcnd _
  have hval : ∀ (j : Nat) t v, Try.f3.params[j]? = some t → args[j]? = some v → Value.okWide Try.prog W .any base t v := hval0
  have hW' := hW
  obtain ⟨p, q, hA0, hV, rfl, hfz, hnd⟩ := hW
  have hA : DataW.TrodAll enc Try.prog W 0 (fun _ => true) true Try.f3.params.toList args.toList ds p := hA0
  rw [Try.params3] at hA hval
  obtain ⟨v0, vs0, d0, ds0, p0, q0, hargs, rfl, rfl, h0, r0⟩ := trodAll_cons hA
  obtain ⟨v1, vs1, d1, ds1, p1, q1, rfl, rfl, rfl, h1, r1⟩ := trodAll_cons r0
  obtain ⟨rfl, rfl, rfl⟩ := trodAll_nil r1
  obtain rfl : args = #[v0, v1] := by cases args; simp_all
  obtain ⟨rfl, rfl⟩ := trodVars_none hV
  obtain ⟨cs0, rfl, sz0⟩ := okWide_struct Try.underlying24 (hval 0 24 v0 rfl rfl)
  rw [cells24] at sz0
  obtain ⟨l0⟩ := cs0
  obtain ⟨c0_0, c0_1, c0_2, rfl⟩ := list3 (show l0.length = 3 from sz0)
  clear sz0
  have k0 := h0
  have lt0 : ∀ x ∈ p0, x.block < W.heap.size := by obtain ⟨m, hm⟩ := k0; exact DataW.trod_lt m _ _ _ hm
  obtain ⟨fuel0, hf0⟩ := h0
  simp only [Value.cells] at hf0
  obtain ⟨xs0_0t24, n0_0t24, _, hx0_0t24, _, hlen0_0t24, hf0_0t24⟩ := DataW.trod_struct Try.underlying24 hf0
  obtain ⟨y0_0t24_0, y0_0t24_1, y0_0t24_2, rfl⟩ := list3 (show xs0_0t24.length = 3 from hlen0_0t24)
  have hy0_0t24_0 : DataW.trod enc Try.prog W 0 (fun _ => true) true n0_0t24 22 [c0_0] = some y0_0t24_0 := by simpa [Value.cells, cells3, cells4, cells22, cells24, cells25, cells27, cells28, cells30] using hf0_0t24 0 _ rfl
  have hy0_0t24_1 : DataW.trod enc Try.prog W 0 (fun _ => true) true n0_0t24 3 [c0_1] = some y0_0t24_1 := by simpa [Value.cells, cells3, cells4, cells22, cells24, cells25, cells27, cells28, cells30] using hf0_0t24 1 _ rfl
  have hy0_0t24_2 : DataW.trod enc Try.prog W 0 (fun _ => true) true n0_0t24 3 [c0_2] = some y0_0t24_2 := by simpa [Value.cells, cells3, cells4, cells22, cells24, cells25, cells27, cells28, cells30] using hf0_0t24 2 _ rfl
  obtain ⟨a0_0, len0_0, cap0_0, z0_0, e0_0, w0_0⟩ : ∃ a len cap zs, c0_0 = .slice a len cap ∧ IsRow .u64 W a len cap zs := by
    rcases open_ints Try.underlying22 Try.underlying25 (by kernel_rfl) hy0_0t24_0 with ⟨hcs, _⟩ | ⟨x, l, c, zs, hcs, _, hl, hm, hz, _, hcell, hwz⟩
    · simp at hcs
      exact ⟨none, 0, 0, [], hcs, .inl ⟨rfl, rfl, rfl, rfl⟩⟩
    · simp at hcs
      exact ⟨_, _, _, zs, hcs, .inr ⟨_, rfl, hl, hm, by simpa using hz, hcell, hwz⟩⟩
  subst e0_0
  obtain ⟨a0_1, e0_1, x0_1, w0_1⟩ := DataW.trod_int Try.underlying3 hy0_0t24_1
  simp at e0_1
  subst e0_1
  obtain ⟨a0_2, e0_2, x0_2, w0_2⟩ := DataW.trod_int Try.underlying3 hy0_0t24_2
  simp at e0_2
  subst e0_2
  obtain ⟨cs1, rfl, sz1⟩ := okWide_struct Try.underlying30 (hval 1 30 v1 rfl rfl)
  rw [cells30] at sz1
  obtain ⟨l1⟩ := cs1
  obtain ⟨c1_0, c1_1, c1_2, c1_3, c1_4, c1_5, c1_6, rfl⟩ := list7 (show l1.length = 7 from sz1)
  clear sz1
  have k1 := h1
  have lt1 : ∀ x ∈ p1, x.block < W.heap.size := by obtain ⟨m, hm⟩ := k1; exact DataW.trod_lt m _ _ _ hm
  obtain ⟨fuel1, hf1⟩ := h1
  simp only [Value.cells] at hf1
  obtain ⟨xs1_0t30, n1_0t30, _, hx1_0t30, _, hlen1_0t30, hf1_0t30⟩ := DataW.trod_struct Try.underlying30 hf1
  obtain ⟨y1_0t30_0, y1_0t30_1, y1_0t30_2, y1_0t30_3, y1_0t30_4, rfl⟩ := list5 (show xs1_0t30.length = 5 from hlen1_0t30)
  have hy1_0t30_0 : DataW.trod enc Try.prog W 0 (fun _ => true) true n1_0t30 3 [c1_0] = some y1_0t30_0 := by simpa [Value.cells, cells3, cells4, cells22, cells24, cells25, cells27, cells28, cells30] using hf1_0t30 0 _ rfl
  have hy1_0t30_1 : DataW.trod enc Try.prog W 0 (fun _ => true) true n1_0t30 25 [c1_1] = some y1_0t30_1 := by simpa [Value.cells, cells3, cells4, cells22, cells24, cells25, cells27, cells28, cells30] using hf1_0t30 1 _ rfl
  have hy1_0t30_2 : DataW.trod enc Try.prog W 0 (fun _ => true) true n1_0t30 27 [c1_2, c1_3] = some y1_0t30_2 := by simpa [Value.cells, cells3, cells4, cells22, cells24, cells25, cells27, cells28, cells30] using hf1_0t30 2 _ rfl
  have hy1_0t30_3 : DataW.trod enc Try.prog W 0 (fun _ => true) true n1_0t30 27 [c1_4, c1_5] = some y1_0t30_3 := by simpa [Value.cells, cells3, cells4, cells22, cells24, cells25, cells27, cells28, cells30] using hf1_0t30 3 _ rfl
  have hy1_0t30_4 : DataW.trod enc Try.prog W 0 (fun _ => true) true n1_0t30 28 [c1_6] = some y1_0t30_4 := by simpa [Value.cells, cells3, cells4, cells22, cells24, cells25, cells27, cells28, cells30] using hf1_0t30 4 _ rfl
  obtain ⟨a1_0, e1_0, x1_0, w1_0⟩ := DataW.trod_int Try.underlying3 hy1_0t30_0
  simp at e1_0
  subst e1_0
  obtain ⟨a1_1, e1_1, x1_1, w1_1⟩ := DataW.trod_int Try.underlying25 hy1_0t30_1
  simp at e1_1
  subst e1_1
  obtain ⟨xs1_2t27, n1_2t27, _, hx1_2t27, _, hlen1_2t27, hf1_2t27⟩ := DataW.trod_struct Try.underlying27 hy1_0t30_2
  obtain ⟨y1_2t27_0, y1_2t27_1, rfl⟩ := list2 (show xs1_2t27.length = 2 from hlen1_2t27)
  have hy1_2t27_0 : DataW.trod enc Try.prog W 0 (fun _ => true) true n1_2t27 3 [c1_2] = some y1_2t27_0 := by simpa [Value.cells, cells3, cells4, cells22, cells24, cells25, cells27, cells28, cells30] using hf1_2t27 0 _ rfl
  have hy1_2t27_1 : DataW.trod enc Try.prog W 0 (fun _ => true) true n1_2t27 25 [c1_3] = some y1_2t27_1 := by simpa [Value.cells, cells3, cells4, cells22, cells24, cells25, cells27, cells28, cells30] using hf1_2t27 1 _ rfl
  obtain ⟨a1_2, e1_2, x1_2, w1_2⟩ := DataW.trod_int Try.underlying3 hy1_2t27_0
  simp at e1_2
  subst e1_2
  obtain ⟨a1_3, e1_3, x1_3, w1_3⟩ := DataW.trod_int Try.underlying25 hy1_2t27_1
  simp at e1_3
  subst e1_3
  obtain ⟨xs1_4t27, n1_4t27, _, hx1_4t27, _, hlen1_4t27, hf1_4t27⟩ := DataW.trod_struct Try.underlying27 hy1_0t30_3
  obtain ⟨y1_4t27_0, y1_4t27_1, rfl⟩ := list2 (show xs1_4t27.length = 2 from hlen1_4t27)
  have hy1_4t27_0 : DataW.trod enc Try.prog W 0 (fun _ => true) true n1_4t27 3 [c1_4] = some y1_4t27_0 := by simpa [Value.cells, cells3, cells4, cells22, cells24, cells25, cells27, cells28, cells30] using hf1_4t27 0 _ rfl
  have hy1_4t27_1 : DataW.trod enc Try.prog W 0 (fun _ => true) true n1_4t27 25 [c1_5] = some y1_4t27_1 := by simpa [Value.cells, cells3, cells4, cells22, cells24, cells25, cells27, cells28, cells30] using hf1_4t27 1 _ rfl
  obtain ⟨a1_4, e1_4, x1_4, w1_4⟩ := DataW.trod_int Try.underlying3 hy1_4t27_0
  simp at e1_4
  subst e1_4
  obtain ⟨a1_5, e1_5, x1_5, w1_5⟩ := DataW.trod_int Try.underlying25 hy1_4t27_1
  simp at e1_5
  subst e1_5
  obtain ⟨a1_6, len1_6, cap1_6, z1_6, e1_6, w1_6⟩ : ∃ a len cap zs, c1_6 = .slice a len cap ∧ IsRow .i64 W a len cap zs := by
    rcases open_ints Try.underlying28 Try.underlying3 (by kernel_rfl) hy1_0t30_4 with ⟨hcs, _⟩ | ⟨x, l, c, zs, hcs, _, hl, hm, hz, _, hcell, hwz⟩
    · simp at hcs
      exact ⟨none, 0, 0, [], hcs, .inl ⟨rfl, rfl, rfl, rfl⟩⟩
    · simp at hcs
      exact ⟨_, _, _, zs, hcs, .inr ⟨_, rfl, hl, hm, by simpa using hz, hcell, hwz⟩⟩
  subst e1_6
  clear hA0 hval0
  refine (walk a0_0 len0_0 cap0_0 z0_0 a0_1 a0_2 a1_0 a1_1 a1_2 a1_3 a1_4 a1_5 a1_6 len1_6 cap1_6 z1_6 W w0_0 w0_1 w0_2 w1_0 w1_1 w1_2 w1_3 w1_4 w1_5 w1_6).mono fun e W' ⟨he, bel⟩ => ?_
  subst he
  exact ⟨_, rfl, _, _, _, [], _, [], hW', trodAll_mk1 (shut_bool Try.underlying4 _), (trodAll_cons_mk (Below.trod laidOut (by kernel_rfl) (of_decide_eq_true (by kernel_rfl)) k0 bel lt0) (trodAll_cons_mk (Below.trod laidOut (by kernel_rfl) (of_decide_eq_true (by kernel_rfl)) k1 bel lt1) trodAll_mk0)), rfl, bel.frame _, fun h => by cases h⟩

theorem over : Rows.voteRightRow.holds Try.pinned (OpenSpec.ofChange Rows.voteRightSpec) :=
  OpenClaim.holds_of_wide 3 Try.f3 rfl rfl rfl rfl rfl rfl rfl ⟨rfl, rfl, rfl, rfl, rfl⟩ rfl rfl rfl rfl rfl (by kernel_rfl) Try.func3 (by kernel_rfl)
    (of_decide_eq_true (by kernel_rfl)) (by unfold Func.isWrapper; first | (rw [if_pos (by decide +kernel)]; kernel_rfl) | (rw [if_neg (by decide +kernel)]; exact ⟨rfl, rfl⟩))
    (fun os started H enc _ => lifted os started H enc)

theorem proved : Rows.VoteRightSaid := over
end Go.Proofs.Ytnofpmdnpfijnaa.voteRight

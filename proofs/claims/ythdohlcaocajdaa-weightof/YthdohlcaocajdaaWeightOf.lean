/-
  what a block has is the sum of the balances whose votes stand on it, and the boost (WeightOf is true of every input).
-/
import Derived.Test.YthdohlcaocajdaaRows

import Derived.WalkKit

import Derived.Below

import Derived.ProofKit

import Derived.OpenShut

import Derived.ShutString

import Derived.ChangeOld

import Derived.Test.YthdohlcaocajdaaShapes

import Derived.Test.YthdohlcaocajdaaGLaw

import Derived.Test.YthdohlcaocajdaaGBest

import Derived.Test.YthdohlcaocajdaaRegG

namespace Go.Proofs.Ythdohlcaocajdaa.weightOf

open Go.ChangeShapes Go.WideShapes Go.ChangeAt Go.RowKit

set_option linter.unusedVariables false

theorem own : ownKnob Try.prog.godebug = none := by kernel_rfl
theorem laidOut : laidOutB Try.prog = true := by kernel_rfl
theorem cells3 : Try.prog.cellsOf 3 = 1 := by kernel_rfl
theorem cells4 : Try.prog.cellsOf 4 = 1 := by kernel_rfl
theorem cells5 : Try.prog.cellsOf 5 = 1 := by kernel_rfl
theorem cells22 : Try.prog.cellsOf 22 = 1 := by kernel_rfl
theorem cells24 : Try.prog.cellsOf 24 = 3 := by kernel_rfl
theorem cells25 : Try.prog.cellsOf 25 = 1 := by kernel_rfl
theorem cells26 : Try.prog.cellsOf 26 = 1 := by kernel_rfl
theorem cells37 : Try.prog.cellsOf 37 = 1 := by kernel_rfl
theorem list3 {α : Type _} {l : List α} (h : l.length = 3) : ∃ x0 x1 x2, l = [x0, x1, x2] := by
  match l, h with
  | [x0, x1, x2], _ => exact ⟨x0, x1, x2, rfl⟩
theorem has4 : Sh.Has Try.prog .bool (.inl 4) := Try.underlying4
theorem has26 : Sh.Has Try.prog (.slice .bool) (.inl 26) := Sh.has_slice Try.underlying26 (by kernel_rfl) (by decide) has4

set_option maxRecDepth 100000 in
set_option maxHeartbeats 4000000 in
set_option maxRecDepth 100000 in
theorem walk (a0_0 : Option Addr) (len0_0 cap0_0 : Nat) (z0_0 : List Int) (a0_1 : Int) (a0_2 : Int) (a1 : Option Addr) (len1 cap1 : Nat) (z1 : List Int) (a2 : Option Addr) (len2 cap2 : Nat) (z2 : List Int) (a3 : Option Addr) (len3 cap3 : Nat) (e3 : Sh.Val (.slice .bool)) (a4 : Int) (a5 : Int) (w : World) (w0_0 : IsRow .u64 w a0_0 len0_0 cap0_0 z0_0) (w0_1 : (Lit.int .i64 a0_1).wf = true) (w0_2 : (Lit.int .i64 a0_2).wf = true) (w1 : IsRow .u8 w a1 len1 cap1 z1) (w2 : IsRow .u8 w a2 len2 cap2 z2) (w3 : Sh.In (.slice .bool) w [.slice a3 len3 cap3] e3) (w4 : (Lit.int .u8 a4).wf = true) (w5 : (Lit.int .u8 a5).wf = true) :
    Calls Try.prog 3 #[.agg #[.slice a0_0 len0_0 cap0_0, .int .i64 a0_1, .int .i64 a0_2], .slice a1 len1 cap1, .slice a2 len2 cap2, .slice a3 len3 cap3, .int .u8 a4, .int .u8 a5] w fun e w' => e = .returned (.bool true) ∧ Below w.heap.size w w' := by
  have hB := w0_0.row
  have hu := w0_0.u64
  have hs := wf_i64 w0_1
  have hb := wf_i64 w0_2
  have HNR := hide w1.row
  have HNU := hide w1.u8
  have HVR := hide w2.row
  have HVU := hide w2.u8
  have hml : len2 ≤ 9223372036854775807 := by have := HVR.out.cap; unfold maxLen at this; omega
  have hb4 := wf_u8e w4
  have hb5 := wf_u8e w5
  have HBN := hide (BR.of w3)
  clear w3 w4 w5
  have hl3 : len3 ≤ 9223372036854775807 := by have := HBN.out.1; unfold maxLen at this; omega
  obtain ⟨r, hr⟩ : ∃ r, Hid (a5 % 33 = r) := ⟨_, rfl⟩
  have hru : U64 r := by rw [← hr.out]; unfold U64; omega
  clear w0_0 w0_1 w0_2 w1 w2
  generalize z0_0.take len0_0 = b0 at *
  have HU := hide hu
  have HB := hide (hB.alloc (cfg a0_0 len0_0 cap0_0 a0_1 a0_2))
  clear hB hu
  go_enter Try.func3, Try.ntmps3
  go_wp2_with fail
  refine (awake_any _).mono ?_
  rintro e w1 ⟨rfl, hbel⟩
  have c0 : w1.cell? ⟨w.heap.size, 0, none⟩ = some (.slice a0_0 len0_0 cap0_0) := by rw [hbel.cell (p := ⟨w.heap.size, 0, none⟩) (by simp)]; simp [go_sem]
  have c1 : w1.cell? ⟨w.heap.size, 1, none⟩ = some (.int .i64 a0_1) := by rw [hbel.cell (p := ⟨w.heap.size, 1, none⟩) (by simp)]; simp [go_sem]
  have c2 : w1.cell? ⟨w.heap.size, 2, none⟩ = some (.int .i64 a0_2) := by rw [hbel.cell (p := ⟨w.heap.size, 2, none⟩) (by simp)]; simp [go_sem]
  have HB1 := hide (HB.out.below hbel)
  have HN := hide ((below_cfg w (cfg a0_0 len0_0 cap0_0 a0_1 a0_2)).trans (hbel.mono (by simp)))
  clear HB hbel
  have HMK := hide (make_any b0 _ _ _ _ _ _ HB1.out HU.out hs hb)
  go_wp2_with fail
  refine HMK.out.mono ?_
  rintro e w2 ⟨ao, d, rfl, hR, hbel⟩
  have hn := mkBs_len b0
  have hbu := mkBs_b b0
  have hSb := mkS_b a0_1
  have hBb := mkB_b a0_2
  generalize mkS a0_1 = S at *
  generalize mkB a0_2 = Bo at *
  generalize mkBs b0 = bal at *
  obtain ⟨n, hnn⟩ : ∃ n, Hid (bal.length = n) := ⟨_, rfl⟩
  rw [hnn.out] at hR hn ⊢
  have HR := hide (hR.alloc (cfg ao n d S Bo))
  have HX := hide (OAt.new w2 (cfg ao n d S Bo))
  have HB2 := hide ((HN.out.trans (hbel.mono HN.out.size)).alloc (Nat.le_trans HN.out.size hbel.size) (cfg ao n d S Bo))
  clear HMK HB1 HU HN hR hbel c0 c1 c2
  go_upto_region 4 with fail
  clear hs hb
  generalize w2.alloc (cfg ao n d S Bo) = w3 at HR HX HB2 ⊢
  generalize w2.heap.size = x at HX ⊢
  have HMD := hide (made_any _ _ _ _ w3 (HNR.out.below HB2.out) HNU.out)
  go_wp2_with fail
  refine HMD.out.mono ?_
  rintro e w4 ⟨p, sv, bs, ms, i, rfl, hM, hNb, hi3, hMo, hbel⟩
  obtain ⟨a, c, rfl, hrow⟩ := hM.row
  obtain ⟨m, hm⟩ : ∃ m, Hid (ms.length = m) := ⟨_, rfl⟩
  rw [hm.out] at hM ⊢
  have HK := hide (⟨hnn.out, hn.1, hn.2, hbu, hSb, hBb, hNb, hi3, hMo, hm.out⟩ : WC bal S Bo bs ms n m i)
  have HM := hide hM
  replace HR := hide (HR.out.below hbel)
  replace HX := hide (HX.out.below hbel)
  replace HB2 := hide (HB2.out.trans (hbel.mono HB2.out.size))
  have hn1 := hn.1
  have hn4 := hn.2
  have x0 := HX.out.cell 0
  simp only [List.getElem?_toArray, List.getElem?_cons_zero] at x0
  clear hM hbel hrow hNb hi3 hMo hm hn hbu hSb hBb hnn HMD HNR HNU
  generalize w3.heap.size = B at HM
  go_wp2_with fail
  refine (of_ent (n : Int) w4 ⟨by omega, by omega⟩).mono ?_
  rintro e V ⟨g, rfl, ho, hg, hbel⟩
  rw [show sizeE (n : Int) = n from by rw [sizeE_of _ ⟨by omega, by omega⟩]; omega] at ho ⊢
  have HW := hide (WSt.start HX.out HR.out HM.out ho hg hbel hn1)
  have GB := hide (Nat.le_trans HB2.out.size hg)
  have HB := hide (HB2.out.trans (hbel.mono HB2.out.size))
  have hF0 := hide (fresh_new n)
  clear ho hg hbel HX HR HM HB2 x0
  go_wp2
  rw [hr.out]
  go_loopw [17, 40] (fun u v wr => ∃ (k : Nat) (z : Int), v = .int .i64 (k : Int) ∧ k ≤ len2 ∧ u = .int .u64 z ∧ Hid (∃ es, WSt B bal S Bo p bs a m c ms es x ao n d g wr ∧ Fresh es k ∧ z = tv (fun x => belowB bs x r) es bal % 18446744073709551616 ∧ Below w.heap.size w wr)) (fun _ v _ => len2 - (intOf v).toNat)
  case atStart => exact ⟨0, 0, rfl, Nat.zero_le _, rfl, hide ⟨_, HW.out, hF0, by rw [tv_new hF0]; rfl, HB.out⟩⟩
  case round =>
    clear HW HB hF0
    obtain ⟨k, z, rfl, hk, rfl, hI⟩ := hrel
    obtain ⟨es, h1, h2, h4, h3⟩ := hI.out
    have HW := hide h1
    have HF := hide h2
    have HB := hide h3
    have HZ := hide h4
    clear hI h1 h2 h3 h4
    by_cases hlt : k < len2
    · obtain ⟨q, off, rfl, hqs, hcn⟩ := (HVR.out.below HB.out).cell k hlt
      have hub := HVU.out ((z2.take len2).getD k 0) (by
        have := HVR.out.len
        rw [List.getD_eq_getElem?_getD, List.getElem?_eq_getElem (by omega)]; exact List.getElem_mem _)
      generalize (z2.take len2).getD k 0 = y at hcn hub
      have hkl : (k : Int) < (len2 : Int) := by omega
      by_cases hkn : k < n
      · have hkn' : ¬ ((n : Int) ≤ (k : Int)) := by omega
        have hyu : U64 (y % 33) := by unfold U64; omega
        have HT := hide (w_take HK.out k hkn (y % 33) hyu wr HW.out HF.out)
        have HF1 : Hid (∀ b, Fresh (es.set k ⟨true, 1, y % 33, b⟩) (k + 1)) := hide (fun b => HF.out.set (by rw [HW.out.el]; exact hkn) ⟨true, 1, y % 33, b⟩)
        have hmore := tv_more (bal := bal) (fun x => belowB bs x r) HF.out (by rw [HW.out.el]; exact hkn) (by rw [HK.out.bl]; exact hkn) (y % 33) z HZ.out
        obtain ⟨q1, q2, q3⟩ := hmore
        have Q1 := hide q1
        have Q2 := hide q2
        have Q3 := hide q3
        clear q1 q2 q3
        go_wp2_with fail
        refine HT.out.mono ?_
        rintro e w5 ⟨rfl, hw1, hap⟩
        have HW1 := hide hw1
        have HB1 := hide (HB.out.trans (hap.old _ HB.out.size (by have := GB.out; omega)))
        clear hw1 hap HT HW HB HZ
        by_cases hk3 : k < len3
        · have hk3' : (k : Int) < (len3 : Int) := by omega
          obtain ⟨tb0, to0, bv, e3x, htb, hct⟩ := (HBN.out.below HB1.out).2 k hk3
          subst e3x
          cases bv
          · skip
            have HBE := hide (w_below HK.out (y % 33) r w5 HW1.out)
            cases hsm : belowB bs (y % 33) r
            · have HZ1 := hide (Q2.out hsm)
              rw [hsm] at HBE
              clear Q1 Q2 Q3 hsm
              go_wp2_with (go_at_call 16; refine HBE.out.mono ?_; rintro e w6 ⟨rfl, hb⟩; have HW2 := hide (HW1.out.below hb); have HB2 := hide (HB1.out.trans (hb.mono HB1.out.size)); clear hb)
              go_roundw
              case rel => exact ⟨k + 1, z, by go_num, by omega, rfl, hide ⟨_, HW2.out, HF1.out _, HZ1.out, HB2.out⟩⟩
              case measure => simp [intOf]; omega
            · have HZ1 := hide (Q1.out hsm)
              rw [hsm] at HBE
              obtain ⟨BK, hBK⟩ : ∃ BK, Hid (bal.getD k 0 = BK) := ⟨_, rfl⟩
              rw [hBK.out] at HZ1
              clear Q1 Q2 Q3 hsm
              go_wp2_with fail
              refine HBE.out.mono ?_
              rintro e w6 ⟨rfl, hb⟩
              have HW2 := hide (HW1.out.below hb)
              have HB2 := hide (HB1.out.trans (hb.mono HB1.out.size))
              have x3 := HW2.out.cells
              obtain ⟨x0, _, _⟩ := x3
              obtain ⟨qb, qo, e1, hqb, hcb⟩ := HW2.out.row.cell k (by omega)
              subst e1
              rw [hBK.out] at hcb
              clear hb HBE HW1 HB1
              go_wp2
              go_roundw
              case rel => exact ⟨k + 1, _, by go_num, by omega, rfl, hide ⟨_, HW2.out, HF1.out _, by rw [IntKind.wrap_u64]; exact HZ1.out, HB2.out⟩⟩
              case measure => simp [intOf]; omega
          · have HBA := hide (w_ban HK.out k hkn (y % 33) hyu w5 HW1.out)
            go_wp2_with (go_at_call 15; refine HBA.out.mono ?_; rintro e w6 ⟨rfl, hw1, hap⟩; have HW2 := hide hw1; have HB2 := hide (HB1.out.trans (hap.old _ HB1.out.size (by have := GB.out; omega))); clear hw1 hap)
            go_roundw
            case rel => exact ⟨k + 1, z, by go_num, by omega, rfl, hide ⟨_, HW2.out, HF1.out _, Q3.out, HB2.out⟩⟩
            case measure => simp [intOf]; omega
        · have hk3' : ¬ ((k : Int) < (len3 : Int)) := by omega
          have HBE := hide (w_below HK.out (y % 33) r w5 HW1.out)
          cases hsm : belowB bs (y % 33) r
          · have HZ1 := hide (Q2.out hsm)
            rw [hsm] at HBE
            clear Q1 Q2 Q3 hsm
            go_wp2_with (go_at_call 16; refine HBE.out.mono ?_; rintro e w6 ⟨rfl, hb⟩; have HW2 := hide (HW1.out.below hb); have HB2 := hide (HB1.out.trans (hb.mono HB1.out.size)); clear hb)
            go_roundw
            case rel => exact ⟨k + 1, z, by go_num, by omega, rfl, hide ⟨_, HW2.out, HF1.out _, HZ1.out, HB2.out⟩⟩
            case measure => simp [intOf]; omega
          · have HZ1 := hide (Q1.out hsm)
            rw [hsm] at HBE
            obtain ⟨BK, hBK⟩ : ∃ BK, Hid (bal.getD k 0 = BK) := ⟨_, rfl⟩
            rw [hBK.out] at HZ1
            clear Q1 Q2 Q3 hsm
            go_wp2_with fail
            refine HBE.out.mono ?_
            rintro e w6 ⟨rfl, hb⟩
            have HW2 := hide (HW1.out.below hb)
            have HB2 := hide (HB1.out.trans (hb.mono HB1.out.size))
            have x3 := HW2.out.cells
            obtain ⟨x0, _, _⟩ := x3
            obtain ⟨qb, qo, e1, hqb, hcb⟩ := HW2.out.row.cell k (by omega)
            subst e1
            rw [hBK.out] at hcb
            clear hb HBE HW1 HB1
            go_wp2
            go_roundw
            case rel => exact ⟨k + 1, _, by go_num, by omega, rfl, hide ⟨_, HW2.out, HF1.out _, by rw [IntKind.wrap_u64]; exact HZ1.out, HB2.out⟩⟩
            case measure => simp [intOf]; omega
      · have hkn' : (n : Int) ≤ (k : Int) := by omega
        obtain ⟨V, rfl⟩ : ∃ V, V = wr := ⟨_, rfl⟩
        have hbu : U64 (a4 % 33) := by unfold U64; omega
        have HO1 : Hid (∀ w', Below V.heap.size V w' → _) := hide fun w' h => w_of HK.out hbu hru w' (HW.out.below h)
        have HBO : Hid (∀ w', Below V.heap.size V w' → _) := hide fun w' h => w_boost HK.out w' (HW.out.below h)
        have HE := hide (w_below HK.out (a4 % 33) r V HW.out)
        have hsum := wV_sum (S := S) (Bo := Bo) (bo := a4 % 33) HZ.out
        obtain ⟨q1, q2⟩ := hsum
        have Q1 := hide q1
        have Q2 := hide q2
        clear q1 q2
        generalize wV bs es bal S Bo (a4 % 33) r = W1 at HO1 Q1 Q2
        generalize bst (tot bal) S Bo = BT at HBO Q1
        generalize belowB bs (a4 % 33) r = B1 at HE Q1 Q2
        have hxs : Hid (∀ w', Below V.heap.size V w' → w'.cell? ⟨x, 0, none⟩ = some (.slice ao n d) ∧ w'.cell? ⟨x, 1, none⟩ = some (.int .i64 S) ∧ w'.cell? ⟨x, 2, none⟩ = some (.int .i64 Bo)) := hide fun w' h => (HW.out.below h).cells
        clear HF HVR HVU HBN HZ
        cases B1
        · obtain rfl := Q2.out rfl
          clear Q1 Q2 HBO
          go_wp2_with fail
          refine HE.out.mono ?_
          rintro e Y ⟨rfl, hb⟩
          have hbl := hide hb
          have x3 := hxs.out Y hb
          obtain ⟨x0, x1, x2⟩ := x3
          have HC := hide (HO1.out Y hb)
          clear hb HE HO1 hxs
          go_wp2_with (go_at_call 18; refine HC.out.mono ?_; rintro e w' ⟨rfl, hb⟩; have HY := hide (HB.out.trans ((hbl.out.trans (hb.mono hbl.out.size)).mono HB.out.size)); clear hb)
          go_ret
          exact ⟨rfl, HY.out⟩
        · have hw : IntKind.u64.wrap (z + BT) = W1 := by rw [IntKind.wrap_u64]; exact Q1.out rfl
          clear Q1 Q2
          go_wp2_with fail
          refine HE.out.mono ?_
          rintro e Y ⟨rfl, hb⟩
          have hbl := hide hb
          have x3 := hxs.out Y hb
          obtain ⟨x0, x1, x2⟩ := x3
          have HC := hide (HBO.out Y hb)
          clear hb HE HBO
          go_wp2_with fail
          refine HC.out.mono ?_
          rintro e Y2 ⟨rfl, hb⟩
          have hbl2 := hide (hbl.out.trans (hb.mono hbl.out.size))
          clear x0 x1 x2
          have x3 := hxs.out Y2 hbl2.out
          obtain ⟨x0, x1, x2⟩ := x3
          have HD := hide (HO1.out Y2 hbl2.out)
          clear hb HC hbl hxs HO1
          go_wp2_with (go_at_call 18; refine HD.out.mono ?_; rintro e w' ⟨rfl, hb⟩; have HY := hide (HB.out.trans ((hbl2.out.trans (hb.mono hbl2.out.size)).mono HB.out.size)); clear hb)
          go_ret
          exact ⟨rfl, HY.out⟩
    · obtain rfl : k = len2 := by omega
      obtain ⟨V, rfl⟩ : ∃ V, V = wr := ⟨_, rfl⟩
      have hbu : U64 (a4 % 33) := by unfold U64; omega
      have HO1 : Hid (∀ w', Below V.heap.size V w' → _) := hide fun w' h => w_of HK.out hbu hru w' (HW.out.below h)
      have HBO : Hid (∀ w', Below V.heap.size V w' → _) := hide fun w' h => w_boost HK.out w' (HW.out.below h)
      have HE := hide (w_below HK.out (a4 % 33) r V HW.out)
      have hsum := wV_sum (S := S) (Bo := Bo) (bo := a4 % 33) HZ.out
      obtain ⟨q1, q2⟩ := hsum
      have Q1 := hide q1
      have Q2 := hide q2
      clear q1 q2
      generalize wV bs es bal S Bo (a4 % 33) r = W1 at HO1 Q1 Q2
      generalize bst (tot bal) S Bo = BT at HBO Q1
      generalize belowB bs (a4 % 33) r = B1 at HE Q1 Q2
      have hxs : Hid (∀ w', Below V.heap.size V w' → w'.cell? ⟨x, 0, none⟩ = some (.slice ao n d) ∧ w'.cell? ⟨x, 1, none⟩ = some (.int .i64 S) ∧ w'.cell? ⟨x, 2, none⟩ = some (.int .i64 Bo)) := hide fun w' h => (HW.out.below h).cells
      clear HF HVR HVU HBN HZ
      cases B1
      · obtain rfl := Q2.out rfl
        clear Q1 Q2 HBO
        go_wp2_with fail
        refine HE.out.mono ?_
        rintro e Y ⟨rfl, hb⟩
        have hbl := hide hb
        have x3 := hxs.out Y hb
        obtain ⟨x0, x1, x2⟩ := x3
        have HC := hide (HO1.out Y hb)
        clear hb HE HO1 hxs
        go_wp2_with (go_at_call 18; refine HC.out.mono ?_; rintro e w' ⟨rfl, hb⟩; have HY := hide (HB.out.trans ((hbl.out.trans (hb.mono hbl.out.size)).mono HB.out.size)); clear hb)
        go_ret
        exact ⟨rfl, HY.out⟩
      · have hw : IntKind.u64.wrap (z + BT) = W1 := by rw [IntKind.wrap_u64]; exact Q1.out rfl
        clear Q1 Q2
        go_wp2_with fail
        refine HE.out.mono ?_
        rintro e Y ⟨rfl, hb⟩
        have hbl := hide hb
        have x3 := hxs.out Y hb
        obtain ⟨x0, x1, x2⟩ := x3
        have HC := hide (HBO.out Y hb)
        clear hb HE HBO
        go_wp2_with fail
        refine HC.out.mono ?_
        rintro e Y2 ⟨rfl, hb⟩
        have hbl2 := hide (hbl.out.trans (hb.mono hbl.out.size))
        clear x0 x1 x2
        have x3 := hxs.out Y2 hbl2.out
        obtain ⟨x0, x1, x2⟩ := x3
        have HD := hide (HO1.out Y2 hbl2.out)
        clear hb HC hbl hxs HO1
        go_wp2_with (go_at_call 18; refine HD.out.mono ?_; rintro e w' ⟨rfl, hb⟩; have HY := hide (HB.out.trans ((hbl2.out.trans (hb.mono hbl2.out.size)).mono HB.out.size)); clear hb)
        go_ret
        exact ⟨rfl, HY.out⟩

set_option maxRecDepth 100000 in
theorem lifted (os : Os) (started : os.Started) (H : Type) (enc : TypeId × Value → H) :
    ReturnsInHanded {} Try.checked os 3 .any (Rows.weightOfSpec.pre6 enc Try.prog Try.f3 Rows.weightOfRow.domain false) (Rows.weightOfSpec.post enc Try.prog Try.f3 false true false false) := by
  refine returnsInHanded_of_change (C := Try.checked) own started (by kernel_rfl) Try.func3
    (ChangeSpec.witness6 (enc := enc) (C := Try.checked) false ⟨#[], #[.agg #[.slice none 0 0, .int .i64 0, .int .i64 0], .slice none 0 0, .slice none 0 0, .slice none 0 0, .int .u8 0, .int .u8 0], []⟩ 8 (by kernel_rfl) (by kernel_rfl) (by kernel_rfl) (by kernel_rfl)) ?_
  intro W base args ds gs before hval0 hW hcnd _
  have hval : ∀ (j : Nat) t v, Try.f3.params[j]? = some t → args[j]? = some v → Value.okWide Try.prog W .any base t v := hval0
  have hW' := hW
  obtain ⟨p, q, hA0, hV, rfl, hfz, hnd⟩ := hW
  have hA : DataW.TrodAll enc Try.prog W 0 (fun _ => true) true Try.f3.params.toList args.toList ds p := hA0
  rw [Try.params3] at hA hval
  obtain ⟨v0, vs0, d0, ds0, p0, q0, hargs, rfl, rfl, h0, r0⟩ := trodAll_cons hA
  obtain ⟨v1, vs1, d1, ds1, p1, q1, rfl, rfl, rfl, h1, r1⟩ := trodAll_cons r0
  obtain ⟨v2, vs2, d2, ds2, p2, q2, rfl, rfl, rfl, h2, r2⟩ := trodAll_cons r1
  obtain ⟨v3, vs3, d3, ds3, p3, q3, rfl, rfl, rfl, h3, r3⟩ := trodAll_cons r2
  obtain ⟨v4, vs4, d4, ds4, p4, q4, rfl, rfl, rfl, h4, r4⟩ := trodAll_cons r3
  obtain ⟨v5, vs5, d5, ds5, p5, q5, rfl, rfl, rfl, h5, r5⟩ := trodAll_cons r4
  obtain ⟨rfl, rfl, rfl⟩ := trodAll_nil r5
  obtain rfl : args = #[v0, v1, v2, v3, v4, v5] := by cases args; simp_all
  obtain ⟨rfl, rfl⟩ := trodVars_none hV
  obtain ⟨cs0, rfl, sz0⟩ := okWide_struct Try.underlying24 (hval 0 24 v0 rfl rfl)
  rw [cells24] at sz0
  obtain ⟨l0⟩ := cs0
  obtain ⟨c0_0, c0_1, c0_2, rfl⟩ := list3 (show l0.length = 3 from sz0)
  clear sz0
  have k0 := h0
  have lt0 : ∀ x ∈ p0, x.block < W.heap.size := by obtain ⟨m, hm⟩ := k0; exact DataW.trod_lt m _ _ _ hm
  obtain ⟨fuel0, hf0⟩ := h0
  simp only [Value.cells] at hf0
  obtain ⟨xs0_0t24, n0_0t24, _, hx0_0t24, _, hlen0_0t24, hf0_0t24⟩ := DataW.trod_struct Try.underlying24 hf0
  obtain ⟨y0_0t24_0, y0_0t24_1, y0_0t24_2, rfl⟩ := list3 (show xs0_0t24.length = 3 from hlen0_0t24)
  have hy0_0t24_0 : DataW.trod enc Try.prog W 0 (fun _ => true) true n0_0t24 22 [c0_0] = some y0_0t24_0 := by simpa [Value.cells, cells3, cells4, cells5, cells22, cells24, cells25, cells26, cells37] using hf0_0t24 0 _ rfl
  have hy0_0t24_1 : DataW.trod enc Try.prog W 0 (fun _ => true) true n0_0t24 3 [c0_1] = some y0_0t24_1 := by simpa [Value.cells, cells3, cells4, cells5, cells22, cells24, cells25, cells26, cells37] using hf0_0t24 1 _ rfl
  have hy0_0t24_2 : DataW.trod enc Try.prog W 0 (fun _ => true) true n0_0t24 3 [c0_2] = some y0_0t24_2 := by simpa [Value.cells, cells3, cells4, cells5, cells22, cells24, cells25, cells26, cells37] using hf0_0t24 2 _ rfl
  obtain ⟨a0_0, len0_0, cap0_0, z0_0, e0_0, w0_0⟩ : ∃ a len cap zs, c0_0 = .slice a len cap ∧ IsRow .u64 W a len cap zs := by
    rcases open_ints Try.underlying22 Try.underlying37 (by kernel_rfl) hy0_0t24_0 with ⟨hcs, _⟩ | ⟨x, l, c, zs, hcs, _, hl, hm, hz, _, hcell, hwz⟩
    · simp at hcs
      exact ⟨none, 0, 0, [], hcs, .inl ⟨rfl, rfl, rfl, rfl⟩⟩
    · simp at hcs
      exact ⟨_, _, _, zs, hcs, .inr ⟨_, rfl, hl, hm, by simpa using hz, hcell, hwz⟩⟩
  subst e0_0
  obtain ⟨a0_1, e0_1, x0_1, w0_1⟩ := DataW.trod_int Try.underlying3 hy0_0t24_1
  simp at e0_1
  subst e0_1
  obtain ⟨a0_2, e0_2, x0_2, w0_2⟩ := DataW.trod_int Try.underlying3 hy0_0t24_2
  simp at e0_2
  subst e0_2
  obtain ⟨a1, len1, cap1, rfl⟩ := okWide_slice Try.underlying25 (hval 1 25 v1 rfl rfl)
  have k1 := h1
  have lt1 : ∀ x ∈ p1, x.block < W.heap.size := by obtain ⟨m, hm⟩ := k1; exact DataW.trod_lt m _ _ _ hm
  obtain ⟨z1, w1⟩ : ∃ zs, IsRow .u8 W a1 len1 cap1 zs := by
    obtain ⟨fuel, hf⟩ := h1
    rcases open_ints Try.underlying25 Try.underlying5 (by kernel_rfl) hf with ⟨hcs, _⟩ | ⟨x, l, c, zs, hcs, _, hl, hm, hz, _, hcell, hwz⟩
    · simp [Value.cells] at hcs
      obtain ⟨rfl, rfl, rfl⟩ := hcs
      exact ⟨[], .inl ⟨rfl, rfl, rfl, rfl⟩⟩
    · simp [Value.cells] at hcs
      obtain ⟨rfl, rfl, rfl⟩ := hcs
      exact ⟨zs, .inr ⟨_, rfl, hl, hm, by simpa using hz, hcell, hwz⟩⟩
  obtain ⟨a2, len2, cap2, rfl⟩ := okWide_slice Try.underlying25 (hval 2 25 v2 rfl rfl)
  have k2 := h2
  have lt2 : ∀ x ∈ p2, x.block < W.heap.size := by obtain ⟨m, hm⟩ := k2; exact DataW.trod_lt m _ _ _ hm
  obtain ⟨z2, w2⟩ : ∃ zs, IsRow .u8 W a2 len2 cap2 zs := by
    obtain ⟨fuel, hf⟩ := h2
    rcases open_ints Try.underlying25 Try.underlying5 (by kernel_rfl) hf with ⟨hcs, _⟩ | ⟨x, l, c, zs, hcs, _, hl, hm, hz, _, hcell, hwz⟩
    · simp [Value.cells] at hcs
      obtain ⟨rfl, rfl, rfl⟩ := hcs
      exact ⟨[], .inl ⟨rfl, rfl, rfl, rfl⟩⟩
    · simp [Value.cells] at hcs
      obtain ⟨rfl, rfl, rfl⟩ := hcs
      exact ⟨zs, .inr ⟨_, rfl, hl, hm, by simpa using hz, hcell, hwz⟩⟩
  obtain ⟨a3, len3, cap3, rfl⟩ := okWide_slice Try.underlying26 (hval 3 26 v3 rfl rfl)
  have k3 := h3
  have lt3 : ∀ x ∈ p3, x.block < W.heap.size := by obtain ⟨m, hm⟩ := k3; exact DataW.trod_lt m _ _ _ hm
  obtain ⟨fuel3, hf3⟩ := h3
  simp only [Value.cells] at hf3
  obtain ⟨e3, w3⟩ := (Sh.read _).1 _ _ _ _ has26 hf3
  obtain ⟨a4, rfl, rfl, rfl, w4⟩ := open_int Try.underlying5 (hval 4 5 v4 rfl rfl) h4
  obtain ⟨a5, rfl, rfl, rfl, w5⟩ := open_int Try.underlying5 (hval 5 5 v5 rfl rfl) h5
  clear hA0 hval0
  refine (walk a0_0 len0_0 cap0_0 z0_0 a0_1 a0_2 a1 len1 cap1 z1 a2 len2 cap2 z2 a3 len3 cap3 e3 a4 a5 W w0_0 w0_1 w0_2 w1 w2 w3 w4 w5).mono fun e W' ⟨he, bel⟩ => ?_
  subst he
  exact ⟨_, rfl, _, _, _, [], _, [], hW', trodAll_mk1 (shut_bool Try.underlying4 _), (trodAll_cons_mk (Below.trod laidOut (by kernel_rfl) (of_decide_eq_true (by kernel_rfl)) k0 bel lt0) (trodAll_cons_mk (Below.trod laidOut (by kernel_rfl) (of_decide_eq_true (by kernel_rfl)) k1 bel lt1) (trodAll_cons_mk (Below.trod laidOut (by kernel_rfl) (of_decide_eq_true (by kernel_rfl)) k2 bel lt2) (trodAll_cons_mk (Below.trod laidOut (by kernel_rfl) (of_decide_eq_true (by kernel_rfl)) k3 bel lt3) (trodAll_cons_mk (shut_int Try.underlying5 w4) (trodAll_cons_mk (shut_int Try.underlying5 w5) trodAll_mk0)))))), rfl, bel.frame _, fun h => by cases h⟩

theorem over : Rows.weightOfRow.holds Try.pinned (OpenSpec.ofChange Rows.weightOfSpec) :=
  OpenClaim.holds_of_wide 3 Try.f3 rfl rfl rfl rfl rfl rfl rfl ⟨rfl, rfl, rfl, rfl, rfl⟩ rfl rfl rfl rfl rfl (by kernel_rfl) Try.func3 (by kernel_rfl)
    (of_decide_eq_true (by kernel_rfl)) (by unfold Func.isWrapper; first | (rw [if_pos (by decide +kernel)]; kernel_rfl) | (rw [if_neg (by decide +kernel)]; exact ⟨rfl, rfl⟩))
    (fun os started H enc _ => lifted os started H enc)

theorem proved : Rows.WeightOfSaid := over
end Go.Proofs.Ythdohlcaocajdaa.weightOf

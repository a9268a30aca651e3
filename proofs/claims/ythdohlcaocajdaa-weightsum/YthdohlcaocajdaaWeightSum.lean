/-
  a block has what the blocks that stand on it at once have together, and the votes that are for itself (WeightSum is true of every input).
-/
import Derived.Test.YthdohlcaocajdaaRows

import Derived.WalkKit

import Derived.Below

import Derived.ProofKit

import Derived.OpenShut

import Derived.ShutString

import Derived.ChangeOld

import Derived.Test.YthdohlcaocajdaaGLaw

import Derived.Test.YthdohlcaocajdaaGBest

import Derived.Test.YthdohlcaocajdaaGKids

namespace Go.Proofs.Ythdohlcaocajdaa.weightSum

open Go.ChangeShapes Go.WideShapes Go.ChangeAt Go.RowKit

set_option linter.unusedVariables false

theorem own : ownKnob Try.prog.godebug = none := by kernel_rfl
theorem laidOut : laidOutB Try.prog = true := by kernel_rfl
theorem cells3 : Try.prog.cellsOf 3 = 1 := by kernel_rfl
theorem cells4 : Try.prog.cellsOf 4 = 1 := by kernel_rfl
theorem cells5 : Try.prog.cellsOf 5 = 1 := by kernel_rfl
theorem cells22 : Try.prog.cellsOf 22 = 1 := by kernel_rfl
theorem cells24 : Try.prog.cellsOf 24 = 3 := by kernel_rfl
theorem cells25 : Try.prog.cellsOf 25 = 1 := by kernel_rfl
theorem cells37 : Try.prog.cellsOf 37 = 1 := by kernel_rfl
theorem list3 {α : Type _} {l : List α} (h : l.length = 3) : ∃ x0 x1 x2, l = [x0, x1, x2] := by
  match l, h with
  | [x0, x1, x2], _ => exact ⟨x0, x1, x2, rfl⟩

set_option maxRecDepth 100000 in
set_option maxHeartbeats 16000000 in
set_option maxRecDepth 100000 in
theorem walk (a0_0 : Option Addr) (len0_0 cap0_0 : Nat) (z0_0 : List Int) (a0_1 : Int) (a0_2 : Int) (a1 : Option Addr) (len1 cap1 : Nat) (z1 : List Int) (a2 : Option Addr) (len2 cap2 : Nat) (z2 : List Int) (w : World) (w0_0 : IsRow .u64 w a0_0 len0_0 cap0_0 z0_0) (w0_1 : (Lit.int .i64 a0_1).wf = true) (w0_2 : (Lit.int .i64 a0_2).wf = true) (w1 : IsRow .u8 w a1 len1 cap1 z1) (w2 : IsRow .u8 w a2 len2 cap2 z2) :
    Calls Try.prog 5 #[.agg #[.slice a0_0 len0_0 cap0_0, .int .i64 a0_1, .int .i64 a0_2], .slice a1 len1 cap1, .slice a2 len2 cap2] w fun e w' => e = .returned (.bool true) ∧ Below w.heap.size w w' := by
  have hB := w0_0.row
  have hu := w0_0.u64
  have hs := wf_i64 w0_1
  have hb := wf_i64 w0_2
  have HNR := hide w1.row
  have HNU := hide w1.u8
  have HVR := hide w2.row
  have HVU := hide w2.u8
  have hml : len2 ≤ 9223372036854775807 := by have := HVR.out.cap; unfold maxLen at this; omega
  clear w0_0 w0_1 w0_2 w1 w2
  generalize z0_0.take len0_0 = b0 at *
  have HU := hide hu
  have HB := hide (hB.alloc (cfg a0_0 len0_0 cap0_0 a0_1 a0_2))
  clear hB hu
  go_enter Try.func5, Try.ntmps5
  go_wp2_with fail
  refine (awake_any _).mono ?_
  rintro e w1 ⟨rfl, hbel⟩
  have c0 : w1.cell? ⟨w.heap.size, 0, none⟩ = some (.slice a0_0 len0_0 cap0_0) := by rw [hbel.cell (p := ⟨w.heap.size, 0, none⟩) (by simp)]; simp [go_sem]
  have c1 : w1.cell? ⟨w.heap.size, 1, none⟩ = some (.int .i64 a0_1) := by rw [hbel.cell (p := ⟨w.heap.size, 1, none⟩) (by simp)]; simp [go_sem]
  have c2 : w1.cell? ⟨w.heap.size, 2, none⟩ = some (.int .i64 a0_2) := by rw [hbel.cell (p := ⟨w.heap.size, 2, none⟩) (by simp)]; simp [go_sem]
  have HB1 := hide (HB.out.below hbel)
  have HN := hide ((below_cfg w (cfg a0_0 len0_0 cap0_0 a0_1 a0_2)).trans (hbel.mono (by simp)))
  clear HB hbel
  have HMK := hide (make_any b0 _ _ _ _ _ _ HB1.out HU.out hs hb)
  go_wp2_with fail
  refine HMK.out.mono ?_
  rintro e w2 ⟨ao, d, rfl, hR, hbel⟩
  have hn := mkBs_len b0
  have hbu := mkBs_b b0
  have hSb := mkS_b a0_1
  have hBb := mkB_b a0_2
  generalize mkS a0_1 = S at *
  generalize mkB a0_2 = Bo at *
  generalize mkBs b0 = bal at *
  obtain ⟨n, hnn⟩ : ∃ n, Hid (bal.length = n) := ⟨_, rfl⟩
  rw [hnn.out] at hR hn ⊢
  have HR := hide (hR.alloc (cfg ao n d S Bo))
  have HX := hide (OAt.new w2 (cfg ao n d S Bo))
  have HB2 := hide ((HN.out.trans (hbel.mono HN.out.size)).alloc (Nat.le_trans HN.out.size hbel.size) (cfg ao n d S Bo))
  clear HMK HB1 HU HN hR hbel c0 c1 c2
  go_upto_region 4 with fail
  clear hs hb
  generalize w2.alloc (cfg ao n d S Bo) = w3 at HR HX HB2 ⊢
  generalize w2.heap.size = x at HX ⊢
  have HMD := hide (made_any _ _ _ _ w3 (HNR.out.below HB2.out) HNU.out)
  go_wp2_with fail
  refine HMD.out.mono ?_
  rintro e w4 ⟨p, sv, bs, ms, i, rfl, hM, hNb, hi3, hMo, hbel⟩
  obtain ⟨a, c, rfl, hrow⟩ := hM.row
  obtain ⟨m, hm⟩ : ∃ m, Hid (ms.length = m) := ⟨_, rfl⟩
  rw [hm.out] at hM ⊢
  have HK := hide (⟨hnn.out, hn.1, hn.2, hbu, hSb, hBb, hNb, hi3, hMo, hm.out⟩ : WC bal S Bo bs ms n m i)
  have HM := hide hM
  replace HR := hide (HR.out.below hbel)
  replace HX := hide (HX.out.below hbel)
  replace HB2 := hide (HB2.out.trans (hbel.mono HB2.out.size))
  have hn1 := hn.1
  have hn4 := hn.2
  have x0 := HX.out.cell 0
  simp only [List.getElem?_toArray, List.getElem?_cons_zero] at x0
  clear hM hbel hrow hNb hi3 hMo hm hn hbu hSb hBb hnn HMD HNR HNU
  generalize w3.heap.size = B at HM
  go_wp2_with fail
  refine (of_ent (n : Int) w4 ⟨by omega, by omega⟩).mono ?_
  rintro e V ⟨g, rfl, ho, hg, hbel⟩
  rw [show sizeE (n : Int) = n from by rw [sizeE_of _ ⟨by omega, by omega⟩]; omega] at ho ⊢
  have HW := hide (WSt.start HX.out HR.out HM.out ho hg hbel hn1)
  have GB := hide (Nat.le_trans HB2.out.size hg)
  have HB := hide (HB2.out.trans (hbel.mono HB2.out.size))
  have hF0 := hide (fresh_new n)
  clear ho hg hbel HX HR HM HB2 x0
  go_wp2
  go_loopw [36] (fun v wr => ∃ k : Nat, v = .int .i64 (k : Int) ∧ k ≤ len2 ∧ Hid (∃ es, WSt B bal S Bo p bs a m c ms es x ao n d g wr ∧ Fresh es k ∧ Below w.heap.size w wr)) (fun v _ => len2 - (intOf v).toNat)
  case atStart => exact ⟨0, rfl, Nat.zero_le _, hide ⟨_, HW.out, hF0, HB.out⟩⟩
  case round =>
    clear HW HB hF0
    obtain ⟨k, rfl, hk, hI⟩ := hrel
    obtain ⟨es, h1, h2, h3⟩ := hI.out
    have HW := hide h1
    have HF := hide h2
    have HB := hide h3
    clear hI h1 h2 h3
    by_cases hlt : k < len2
    · obtain ⟨q, off, rfl, hqs, hcn⟩ := (HVR.out.below HB.out).cell k hlt
      have hub := HVU.out ((z2.take len2).getD k 0) (by
        have := HVR.out.len
        rw [List.getD_eq_getElem?_getD, List.getElem?_eq_getElem (by omega)]; exact List.getElem_mem _)
      generalize (z2.take len2).getD k 0 = y at hcn hub
      have hkl : (k : Int) < (len2 : Int) := by omega
      by_cases hkn : k < n
      · have hkn' : (k : Int) < (n : Int) := by omega
        have hmi := hide HK.out.mi
        have hi3 := hide HK.out.i3
        obtain ⟨q2, hq⟩ : ∃ q2 : Nat, y % (m : Int) = (q2 : Int) := ⟨(y % (m : Int)).toNat, by have := Int.emod_nonneg y (show (m : Int) ≠ 0 by have := hmi.out; omega); omega⟩
        have hq31 : (q2 : Int) ≤ 31 := by
          have h1 := Int.emod_lt_of_pos y (show (0 : Int) < m by have := hmi.out; omega)
          have h2 := hmi.out
          have h3 := hi3.out
          omega
        have hm0 : ¬ m = 0 := by have := hmi.out; omega
        have hmp : 0 < m := by omega
        have hyu : U64 ((q2 : Int) + 1) := by unfold U64; omega
        have HT := hide (w_take HK.out k hkn ((q2 : Int) + 1) hyu wr HW.out HF.out)
        have HF1 := hide (HF.out.set (by rw [HW.out.el]; exact hkn) ⟨true, 1, (q2 : Int) + 1, false⟩)
        have hqw : IntKind.u64.wrap ((q2 : Int) + 1) = (q2 : Int) + 1 := by rw [IntKind.wrap_u64]; omega
        go_wp2_with (go_at_call 14; refine HT.out.mono ?_; rintro e w' ⟨rfl, hw1, hap⟩; have HW1 := hide hw1; have HB1 := hide (HB.out.trans (hap.old _ HB.out.size (by have := GB.out; omega))); clear hw1 hap)
        go_roundw
        case rel => exact ⟨k + 1, by go_num, by omega, hide ⟨_, HW1.out, HF1.out, HB1.out⟩⟩
        case measure => simp [intOf]; omega
      · have hkn' : ¬ ((k : Int) < (n : Int)) := by omega
        go_wp2
        go_roundw
        case rel => exact ⟨k + 1, by go_num, by omega, hide ⟨_, HW.out, HF.out.mono (Nat.le_succ k), HB.out⟩⟩
        case measure => simp [intOf]; omega
    · obtain rfl : k = len2 := by omega
      obtain ⟨V, rfl⟩ : ∃ V, V = wr := ⟨_, rfl⟩
      clear HF HVR HVU hml
      have hmi := hide HK.out.mi
      have hi3 := hide HK.out.i3
      have hm31 : m ≤ 31 := by have := hmi.out; have := hi3.out; omega
      clear hmi hi3
      go_wp2
      go_loopw [58] (fun v wr => ∃ q : Nat, v = .int .i64 (q : Int) ∧ q ≤ m ∧ Hid (WSt B bal S Bo p bs a m c ms es x ao n d g wr ∧ Below w.heap.size w wr)) (fun v _ => m - (intOf v).toNat)
      case atStart => exact ⟨0, rfl, Nat.zero_le _, hide ⟨HW.out, HB.out⟩⟩
      case round =>
        clear HW HB
        obtain ⟨q, rfl, hqm, hI⟩ := hrel
        have HW := hide hI.out.1
        have HB := hide hI.out.2
        clear hI
        by_cases hqlt : q < m
        · obtain ⟨gn, on, rfl, hgn, hcn⟩ := (HW.out.nrow HK.out).2 (by omega)
          have h4 := hcn q hqlt
          obtain ⟨nx, hnx⟩ : ∃ nx, Hid (nd ms q = nx) := ⟨_, rfl⟩
          have hql : Hid (q < bs.length) := hide (by rw [HK.out.nb.len, ← HK.out.mi]; exact hqlt)
          have hroot : Hid (nx.root = (tb bs q).root) := hide (by rw [← hnx.out]; exact HK.out.mo.root q hql.out)
          have hru := HK.out.nb.ok.root q hql.out
          rw [hnx.out] at h4
          have LD := hide (node_load h4)
          have ST := hide (node_store wr nx)
          have HN1 := hide (OAt.new wr (.cells #[.int .u64 nx.root, .int .u64 nx.par, .int .i64 nx.slot] 49))
          replace HB := hide (HB.out.alloc HB.out.size (.cells #[.int .u64 nx.root, .int .u64 nx.par, .int .i64 nx.slot] 49))
          replace HW := hide (HW.out.below (below_alloc wr (.cells #[.int .u64 nx.root, .int .u64 nx.par, .int .i64 nx.slot] 49)))
          have hqi : (q : Int) < (m : Int) := by omega
          clear hcn h4
          go_upto_region 15 with (first
            | (refine wpList_load_at 49 (.tmp 60) rfl rfl (.pointer (some ⟨gn, on + q * 3, none⟩)) rfl (.agg _) LD.out ?_)
            | (refine wpList_store_at 49 (.tmp 14) (.tmp 61) rfl rfl (.pointer (some ⟨wr.heap.size, 0, none⟩)) (.agg _) rfl rfl _ ST.out ?_))
          clear LD ST
          go_frame
          generalize wr.alloc (.cells #[.int .u64 nx.root, .int .u64 nx.par, .int .i64 nx.slot] 49) = wa at HN1 HB HW ⊢
          generalize wr.heap.size = nb at HN1 ⊢
          obtain ⟨N0, N1, N2⟩ := nx
          simp only at hroot HN1
          obtain ⟨R, hR⟩ : ∃ R, Hid ((tb bs q).root = R) := ⟨_, rfl⟩
          rw [hR.out] at hroot hru
          rw [hroot.out] at HN1
          clear hnx hroot
          have HKD := hide (w_kids HK.out q hqlt wa HW.out)
          rw [hR.out] at HKD
          have q0 := HN1.out.cell 0
          simp only [List.getElem?_toArray, List.getElem?_cons_zero] at q0
          go_wp2_with fail
          refine HKD.out.mono ?_
          rintro e w6 ⟨kv, rfl, hkow, hb⟩
          obtain ⟨ka, kc, rfl, hkr⟩ := RowIn.ofOwned hkow
          replace HB := hide (HB.out.trans (hb.mono HB.out.size))
          replace HW := hide (HW.out.below hb)
          replace HN1 := hide (HN1.out.below hb)
          have HKR := hide hkr
          clear hb hkow hkr HKD q0
          obtain ⟨kn, hkn⟩ : ∃ kn, Hid ((tb bs q).kids.length = kn) := ⟨_, rfl⟩
          rw [hkn.out] at HKR ⊢
          have hkn4 : kn ≤ 1024 := by rw [← hkn.out]; exact Nat.le_trans (HK.out.nb.ok.kids q hql.out) HK.out.nb.ok.lim
          have hks := hide (fun j (hj : j < kn) => kid_step HK.out.nb.ok hql.out (by rw [hkn.out]; exact hj) es bal)
          have hka := hide (kid_all HK.out.nb.ok hql.out es bal)
          have hkm := hide (fun j (hj : j < kn) => HK.out.nb.ok.km q hql.out ((tb bs q).kids.getD j 0))
          rw [hR.out] at hka
          go_wp2
          go_loopw [15, 67] (fun u v wr => ∃ (j : Nat) (z : Int), v = .int .i64 (j : Int) ∧ j ≤ kn ∧ u = .int .u64 z ∧ Hid (WSt B bal S Bo p bs (some ⟨gn, on, none⟩) m c ms es x ao n d g wr ∧ OAt wr nb (.cells #[.int .u64 R, .int .u64 N1, .int .i64 N2] 49) ∧ RowIn .u64 wr ka kn kc (tb bs q).kids ∧ z = tv (onK bs ((tb bs q).kids.take j)) es bal % 18446744073709551616 ∧ Below w.heap.size w wr)) (fun _ v _ => kn - (intOf v).toNat)
          case atStart => exact ⟨0, 0, rfl, Nat.zero_le _, rfl, hide ⟨HW.out, HN1.out, HKR.out, by rw [List.take_zero, kid_none]; rfl, HB.out⟩⟩
          case round =>
            clear HW HN1 HKR HB
            obtain ⟨j, z, rfl, hjk, rfl, hI⟩ := hrel
            obtain ⟨h1, h2, h3, h4, h5⟩ := hI.out
            have HW := hide h1
            have HN1 := hide h2
            have HKR := hide h3
            have HZ := hide h4
            have HB := hide h5
            clear hI h1 h2 h3 h4 h5
            by_cases hjlt : j < kn
            · obtain ⟨gk, ok, rfl, hgk, hck⟩ := HKR.out.cell j hjlt
              have hst := hks.out j hjlt
              have hku : U64 ((tb bs q).kids.getD j 0) := by
                obtain ⟨j2, _, hj2, _, hr2⟩ := (hkm.out j hjlt).1 (by rw [List.getD_eq_getElem?_getD, List.getElem?_eq_getElem (by rw [hkn.out]; exact hjlt)]; exact List.getElem_mem _)
                rw [← hr2]
                exact HK.out.nb.ok.root j2 hj2
              generalize (tb bs q).kids.getD j 0 = kd at hck hst hku
              have hwz := hide (wV_zero (es := es) HK.out kd)
              have HO1 := hide (w_of HK.out (show U64 0 by unfold U64; omega) hku wr HW.out)
              obtain ⟨W1, hW1⟩ : ∃ W1, Hid (wV bs es bal S Bo 0 kd = W1) := ⟨_, rfl⟩
              rw [hW1.out] at HO1 hwz
              have HZ1 : Hid ((z + W1) % 18446744073709551616 = tv (onK bs ((tb bs q).kids.take (j + 1))) es bal % 18446744073709551616) := hide (by rw [hst, HZ.out, hwz.out]; omega)
              have x3 := HW.out.cells
              obtain ⟨x0, x1, x2⟩ := x3
              have hji : (j : Int) < (kn : Int) := by omega
              clear hst hwz hW1 hku
              go_wp2_with (go_at_call 18; refine HO1.out.mono ?_; rintro e w7 ⟨rfl, hb⟩; have HW2 := hide (HW.out.below hb); have HN2 := hide (HN1.out.below hb); have HKR2 := hide (HKR.out.below hb); have HB2 := hide (HB.out.trans (hb.mono HB.out.size)); clear hb)
              go_roundw
              case rel => exact ⟨j + 1, _, by go_num, by omega, rfl, hide ⟨HW2.out, HN2.out, HKR2.out, by rw [IntKind.wrap_u64]; exact HZ1.out, HB2.out⟩⟩
              case measure => simp [intOf]; omega
            · obtain rfl : j = kn := by omega
              rw [List.take_of_length_le (by rw [hkn.out]; omega)] at HZ
              clear HKR hks hkm
              have HZ0 := hide HZ.out
              go_wp2
              go_loopw [15, 81] (fun u v wr => ∃ (k : Nat) (z : Int), v = .int .i64 (k : Int) ∧ k ≤ n ∧ u = .int .u64 z ∧ Hid (WSt B bal S Bo p bs (some ⟨gn, on, none⟩) m c ms es x ao n d g wr ∧ OAt wr nb (.cells #[.int .u64 R, .int .u64 N1, .int .i64 N2] 49) ∧ z = (tv (onK bs (tb bs q).kids) es bal + tvK (fun x => x == R) es bal k) % 18446744073709551616 ∧ Below w.heap.size w wr)) (fun _ v _ => n - (intOf v).toNat)
              case atStart => exact ⟨0, z, rfl, Nat.zero_le _, rfl, hide ⟨HW.out, HN1.out, by rw [HZ.out]; simp [tvK], HB.out⟩⟩
              case round =>
                clear HW HN1 HB HZ HZ0
                obtain ⟨k, z, rfl, hkn, rfl, hI⟩ := hrel
                obtain ⟨h1, h2, h4, h5⟩ := hI.out
                have HW := hide h1
                have HN1 := hide h2
                have HZ := hide h4
                have HB := hide h5
                clear hI h1 h2 h4 h5
                have q0 := HN1.out.cell 0
                simp only [List.getElem?_toArray, List.getElem?_cons_zero] at q0
                by_cases hklt : k < n
                · have HG := hide (w_get HK.out k wr HW.out hklt)
                  have hki : (k : Int) < (n : Int) := by omega
                  have htk : Hid (tvK (fun x => x == R) es bal (k + 1) = tvK (fun x => x == R) es bal k + (bif getB' es (k : Int) && (getR es (k : Int) == R) then one bal (k : Int) else 0)) := hide rfl
                  rw [one_nat bal k (by rw [HK.out.bl]; exact hklt)] at htk
                  generalize getR es (k : Int) = rr at HG htk
                  cases hgb : getB' es (k : Int)
                  · rw [hgb] at HG htk
                    simp only [Bool.false_and, cond_false, Int.add_zero] at htk
                    clear hgb
                    have HZ1 : Hid (z = (tv (onK bs (tb bs q).kids) es bal + tvK (fun x => x == R) es bal (k + 1)) % 18446744073709551616) := hide (by rw [htk.out]; exact HZ.out)
                    clear htk
                    go_wp2_with (go_at_call 22; refine HG.out.mono ?_; rintro e w' ⟨rfl, hw⟩; obtain rfl : _ = w' := hw.symm)
                    go_roundw
                    case rel => exact ⟨k + 1, z, by go_num, by omega, rfl, hide ⟨HW.out, HN1.out, HZ1.out, HB.out⟩⟩
                    case measure => simp [intOf]; omega
                  · rw [hgb] at HG htk
                    simp only [Bool.true_and] at htk
                    clear hgb
                    cases hrr : rr == R
                    · rw [hrr] at htk
                      simp only [cond_false, Int.add_zero] at htk
                      have HZ1 : Hid (z = (tv (onK bs (tb bs q).kids) es bal + tvK (fun x => x == R) es bal (k + 1)) % 18446744073709551616) := hide (by rw [htk.out]; exact HZ.out)
                      clear htk
                      go_wp2_with (go_at_call 22; refine HG.out.mono ?_; rintro e w' ⟨rfl, hw⟩; obtain rfl : _ = w' := hw.symm)
                      go_roundw
                      case rel => exact ⟨k + 1, z, by go_num, by omega, rfl, hide ⟨HW.out, HN1.out, HZ1.out, HB.out⟩⟩
                      case measure => simp [intOf]; omega
                    · rw [hrr] at htk
                      simp only [cond_true] at htk
                      obtain ⟨BK, hBK⟩ : ∃ BK, Hid (bal.getD k 0 = BK) := ⟨_, rfl⟩
                      rw [hBK.out] at htk
                      have HZ1 : Hid ((z + BK) % 18446744073709551616 = (tv (onK bs (tb bs q).kids) es bal + tvK (fun x => x == R) es bal (k + 1)) % 18446744073709551616) := hide (by rw [htk.out, HZ.out]; omega)
                      have x3 := HW.out.cells
                      obtain ⟨x0, _, _⟩ := x3
                      obtain ⟨qb, qo, e1, hqb, hcb⟩ := HW.out.row.cell k (by omega)
                      subst e1
                      rw [hBK.out] at hcb
                      clear htk
                      go_wp2_with (go_at_call 22; refine HG.out.mono ?_; rintro e w' ⟨rfl, hw⟩; obtain rfl : _ = w' := hw.symm)
                      go_roundw
                      case rel => exact ⟨k + 1, _, by go_num, by omega, rfl, hide ⟨HW.out, HN1.out, by rw [IntKind.wrap_u64]; exact HZ1.out, HB.out⟩⟩
                      case measure => simp [intOf]; omega
                · obtain rfl : k = n := by omega
                  have HO1 := hide (w_of HK.out (show U64 0 by unfold U64; omega) hru wr HW.out)
                  have hwz : Hid (wV bs es bal S Bo 0 R = z) := hide (by
                    rw [wV_zero HK.out, hka.out, HZ.out]
                    unfold tv
                    rw [HW.out.el])
                  rw [hwz.out] at HO1
                  have x3 := HW.out.cells
                  obtain ⟨x0, x1, x2⟩ := x3
                  clear hwz HZ hka
                  go_wp2_with (go_at_call 18; refine HO1.out.mono ?_; rintro e w7 ⟨rfl, hb⟩; have HW2 := hide (HW.out.below hb); have HB2 := hide (HB.out.trans (hb.mono HB.out.size)); clear hb)
                  go_roundw
                  case rel => exact ⟨q + 1, by go_num, by omega, hide ⟨HW2.out, HB2.out⟩⟩
                  case measure => simp [intOf]; omega
        · obtain rfl : q = m := by omega
          have HZ := hide HB.out
          go_wp2
          go_ret
          exact ⟨rfl, HZ.out⟩

set_option maxRecDepth 100000 in
theorem lifted (os : Os) (started : os.Started) (H : Type) (enc : TypeId × Value → H) :
    ReturnsInHanded {} Try.checked os 5 .any (Rows.weightSumSpec.pre6 enc Try.prog Try.f5 Rows.weightSumRow.domain false) (Rows.weightSumSpec.post enc Try.prog Try.f5 false true false false) := by
  refine returnsInHanded_of_change (C := Try.checked) own started (by kernel_rfl) Try.func5
    (ChangeSpec.witness6 (enc := enc) (C := Try.checked) false ⟨#[], #[.agg #[.slice none 0 0, .int .i64 0, .int .i64 0], .slice none 0 0, .slice none 0 0], []⟩ 8 (by kernel_rfl) (by kernel_rfl) (by kernel_rfl) (by kernel_rfl)) ?_
  intro W base args ds gs before hval0 hW hcnd _
  have hval : ∀ (j : Nat) t v, Try.f5.params[j]? = some t → args[j]? = some v → Value.okWide Try.prog W .any base t v := hval0
  have hW' := hW
  obtain ⟨p, q, hA0, hV, rfl, hfz, hnd⟩ := hW
  have hA : DataW.TrodAll enc Try.prog W 0 (fun _ => true) true Try.f5.params.toList args.toList ds p := hA0
  rw [Try.params5] at hA hval
  obtain ⟨v0, vs0, d0, ds0, p0, q0, hargs, rfl, rfl, h0, r0⟩ := trodAll_cons hA
  obtain ⟨v1, vs1, d1, ds1, p1, q1, rfl, rfl, rfl, h1, r1⟩ := trodAll_cons r0
  obtain ⟨v2, vs2, d2, ds2, p2, q2, rfl, rfl, rfl, h2, r2⟩ := trodAll_cons r1
  obtain ⟨rfl, rfl, rfl⟩ := trodAll_nil r2
  obtain rfl : args = #[v0, v1, v2] := by cases args; simp_all
  obtain ⟨rfl, rfl⟩ := trodVars_none hV
  obtain ⟨cs0, rfl, sz0⟩ := okWide_struct Try.underlying24 (hval 0 24 v0 rfl rfl)
  rw [cells24] at sz0
  obtain ⟨l0⟩ := cs0
  obtain ⟨c0_0, c0_1, c0_2, rfl⟩ := list3 (show l0.length = 3 from sz0)
  clear sz0
  have k0 := h0
  have lt0 : ∀ x ∈ p0, x.block < W.heap.size := by obtain ⟨m, hm⟩ := k0; exact DataW.trod_lt m _ _ _ hm
  obtain ⟨fuel0, hf0⟩ := h0
  simp only [Value.cells] at hf0
  obtain ⟨xs0_0t24, n0_0t24, _, hx0_0t24, _, hlen0_0t24, hf0_0t24⟩ := DataW.trod_struct Try.underlying24 hf0
  obtain ⟨y0_0t24_0, y0_0t24_1, y0_0t24_2, rfl⟩ := list3 (show xs0_0t24.length = 3 from hlen0_0t24)
  have hy0_0t24_0 : DataW.trod enc Try.prog W 0 (fun _ => true) true n0_0t24 22 [c0_0] = some y0_0t24_0 := by simpa [Value.cells, cells3, cells4, cells5, cells22, cells24, cells25, cells37] using hf0_0t24 0 _ rfl
  have hy0_0t24_1 : DataW.trod enc Try.prog W 0 (fun _ => true) true n0_0t24 3 [c0_1] = some y0_0t24_1 := by simpa [Value.cells, cells3, cells4, cells5, cells22, cells24, cells25, cells37] using hf0_0t24 1 _ rfl
  have hy0_0t24_2 : DataW.trod enc Try.prog W 0 (fun _ => true) true n0_0t24 3 [c0_2] = some y0_0t24_2 := by simpa [Value.cells, cells3, cells4, cells5, cells22, cells24, cells25, cells37] using hf0_0t24 2 _ rfl
  obtain ⟨a0_0, len0_0, cap0_0, z0_0, e0_0, w0_0⟩ : ∃ a len cap zs, c0_0 = .slice a len cap ∧ IsRow .u64 W a len cap zs := by
    rcases open_ints Try.underlying22 Try.underlying37 (by kernel_rfl) hy0_0t24_0 with ⟨hcs, _⟩ | ⟨x, l, c, zs, hcs, _, hl, hm, hz, _, hcell, hwz⟩
    · simp at hcs
      exact ⟨none, 0, 0, [], hcs, .inl ⟨rfl, rfl, rfl, rfl⟩⟩
    · simp at hcs
      exact ⟨_, _, _, zs, hcs, .inr ⟨_, rfl, hl, hm, by simpa using hz, hcell, hwz⟩⟩
  subst e0_0
  obtain ⟨a0_1, e0_1, x0_1, w0_1⟩ := DataW.trod_int Try.underlying3 hy0_0t24_1
  simp at e0_1
  subst e0_1
  obtain ⟨a0_2, e0_2, x0_2, w0_2⟩ := DataW.trod_int Try.underlying3 hy0_0t24_2
  simp at e0_2
  subst e0_2
  obtain ⟨a1, len1, cap1, rfl⟩ := okWide_slice Try.underlying25 (hval 1 25 v1 rfl rfl)
  have k1 := h1
  have lt1 : ∀ x ∈ p1, x.block < W.heap.size := by obtain ⟨m, hm⟩ := k1; exact DataW.trod_lt m _ _ _ hm
  obtain ⟨z1, w1⟩ : ∃ zs, IsRow .u8 W a1 len1 cap1 zs := by
    obtain ⟨fuel, hf⟩ := h1
    rcases open_ints Try.underlying25 Try.underlying5 (by kernel_rfl) hf with ⟨hcs, _⟩ | ⟨x, l, c, zs, hcs, _, hl, hm, hz, _, hcell, hwz⟩
    · simp [Value.cells] at hcs
      obtain ⟨rfl, rfl, rfl⟩ := hcs
      exact ⟨[], .inl ⟨rfl, rfl, rfl, rfl⟩⟩
    · simp [Value.cells] at hcs
      obtain ⟨rfl, rfl, rfl⟩ := hcs
      exact ⟨zs, .inr ⟨_, rfl, hl, hm, by simpa using hz, hcell, hwz⟩⟩
  obtain ⟨a2, len2, cap2, rfl⟩ := okWide_slice Try.underlying25 (hval 2 25 v2 rfl rfl)
  have k2 := h2
  have lt2 : ∀ x ∈ p2, x.block < W.heap.size := by obtain ⟨m, hm⟩ := k2; exact DataW.trod_lt m _ _ _ hm
  obtain ⟨z2, w2⟩ : ∃ zs, IsRow .u8 W a2 len2 cap2 zs := by
    obtain ⟨fuel, hf⟩ := h2
    rcases open_ints Try.underlying25 Try.underlying5 (by kernel_rfl) hf with ⟨hcs, _⟩ | ⟨x, l, c, zs, hcs, _, hl, hm, hz, _, hcell, hwz⟩
    · simp [Value.cells] at hcs
      obtain ⟨rfl, rfl, rfl⟩ := hcs
      exact ⟨[], .inl ⟨rfl, rfl, rfl, rfl⟩⟩
    · simp [Value.cells] at hcs
      obtain ⟨rfl, rfl, rfl⟩ := hcs
      exact ⟨zs, .inr ⟨_, rfl, hl, hm, by simpa using hz, hcell, hwz⟩⟩
  clear hA0 hval0
  refine (walk a0_0 len0_0 cap0_0 z0_0 a0_1 a0_2 a1 len1 cap1 z1 a2 len2 cap2 z2 W w0_0 w0_1 w0_2 w1 w2).mono fun e W' ⟨he, bel⟩ => ?_
  subst he
  exact ⟨_, rfl, _, _, _, [], _, [], hW', trodAll_mk1 (shut_bool Try.underlying4 _), (trodAll_cons_mk (Below.trod laidOut (by kernel_rfl) (of_decide_eq_true (by kernel_rfl)) k0 bel lt0) (trodAll_cons_mk (Below.trod laidOut (by kernel_rfl) (of_decide_eq_true (by kernel_rfl)) k1 bel lt1) (trodAll_cons_mk (Below.trod laidOut (by kernel_rfl) (of_decide_eq_true (by kernel_rfl)) k2 bel lt2) trodAll_mk0))), rfl, bel.frame _, fun h => by cases h⟩

theorem over : Rows.weightSumRow.holds Try.pinned (OpenSpec.ofChange Rows.weightSumSpec) :=
  OpenClaim.holds_of_wide 5 Try.f5 rfl rfl rfl rfl rfl rfl rfl ⟨rfl, rfl, rfl, rfl, rfl⟩ rfl rfl rfl rfl rfl (by kernel_rfl) Try.func5 (by kernel_rfl)
    (of_decide_eq_true (by kernel_rfl)) (by unfold Func.isWrapper; first | (rw [if_pos (by decide +kernel)]; kernel_rfl) | (rw [if_neg (by decide +kernel)]; exact ⟨rfl, rfl⟩))
    (fun os started H enc _ => lifted os started H enc)

theorem proved : Rows.WeightSumSaid := over
end Go.Proofs.Ythdohlcaocajdaa.weightSum

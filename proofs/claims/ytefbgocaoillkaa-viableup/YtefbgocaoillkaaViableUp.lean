/-
  whatever may lead to the head, all on which it stands may; whatever may has one on it that may, or none at all (ViableUp is true of every input).
-/
import Derived.Test.YtefbgocaoillkaaRows

import Derived.WalkKit

import Derived.Below

import Derived.ProofKit

import Derived.OpenShut

import Derived.ShutString

import Derived.ChangeOld

import Derived.Test.YtefbgocaoillkaaVbAwake

namespace Go.Proofs.Ytefbgocaoillkaa.viableUp

open Go.ChangeShapes Go.WideShapes Go.ChangeAt Go.RowKit

set_option linter.unusedVariables false

theorem own : ownKnob Try.prog.godebug = none := by kernel_rfl
theorem laidOut : laidOutB Try.prog = true := by kernel_rfl
theorem cells4 : Try.prog.cellsOf 4 = 1 := by kernel_rfl
theorem cells5 : Try.prog.cellsOf 5 = 1 := by kernel_rfl
theorem cells22 : Try.prog.cellsOf 22 = 1 := by kernel_rfl

set_option maxRecDepth 100000 in
set_option maxHeartbeats 8000000 in
set_option maxRecDepth 100000 in
theorem walk (a0 : Option Addr) (len0 cap0 : Nat) (z0 : List Int) (a1 : Int) (a2 : Int) (a3 : Int) (a4 : Option Addr) (len4 cap4 : Nat) (z4 : List Int) (w : World) (w0 : IsRow .u8 w a0 len0 cap0 z0) (w1 : (Lit.int .u8 a1).wf = true) (w2 : (Lit.int .u8 a2).wf = true) (w3 : (Lit.int .u8 a3).wf = true) (w4 : IsRow .u8 w a4 len4 cap4 z4) :
    Calls Try.prog 4 #[.slice a0 len0 cap0, .int .u8 a1, .int .u8 a2, .int .u8 a3, .slice a4 len4 cap4] w fun e w' => e = .returned (.bool true) ∧ Below w.heap.size w w' := by
  have HNR := hide w0.row
  have HNU := hide w0.u8
  clear w0
  have hj := wf_u8e w1
  have hfi := wf_u8e w2
  have hn := wf_u8e w3
  clear w1 w2 w3
  have HSR := hide w4.row
  have HSU := hide w4.u8
  clear w4
  go_enter Try.func4, Try.ntmps4
  go_wp2_with fail
  refine (vawake_any _).mono ?_
  rintro e V1 ⟨rfl, hbel⟩
  have HB1 := hide hbel
  clear hbel
  have HMD := hide (made1_any _ _ _ _ V1 (HNR.out.below HB1.out) HNU.out)
  go_wp2_with fail
  refine HMD.out.mono ?_
  rintro e V ⟨p, sv, bs, ms, i, rfl, hM, hNb, hi3, hMo, hbel, hp1⟩
  obtain ⟨a, c, rfl, hrow⟩ := hM.row
  obtain ⟨m, hm⟩ : ∃ m, Hid (ms.length = m) := ⟨_, rfl⟩
  rw [hm.out] at hM hrow ⊢
  have HT := hide hM.tree
  have HN := hide hrow
  have HK := hide hNb
  have HMo := hide hMo
  have HB := hide (HB1.out.trans (hbel.mono HB1.out.size))
  have hml := hide (show m = bs.length by rw [← hm.out]; exact hMo.len)
  have hmi := hide (show m = i + 1 by rw [hml.out]; exact hNb.len)
  have hm1 : 1 ≤ m := by have := hmi.out; omega
  have hm31 : m ≤ 31 := by have := hmi.out; omega
  have hms := hide (fun j (hj : j < m) => show U64 (nd ms j).root by rw [hMo.root j (by rw [← hml.out]; exact hj)]; exact hNb.ok.root j (by rw [← hml.out]; exact hj))
  have hfirst := hide (show (nd ms 0).root = (tb bs 0).root from hMo.root 0 (by have := hml.out; omega))
  have HP1 := hide hp1
  clear hp1 hM hrow hNb hMo hbel HMD HNR HNU HB1 hm
  have hfr : U64 (nd ms (a2 % (m : Int)).toNat).root := hms.out _ (by have := Int.emod_nonneg a2 (show (m : Int) ≠ 0 by omega); have := Int.emod_lt_of_pos a2 (show (0 : Int) < m by omega); omega)
  have HVW := hide (view_any ms a m c _ _ _ _ a1 a2 a3 V HN.out ⟨by omega, by omega⟩ (HSR.out.below HB.out) HSU.out hj hfi hn hms.out)
  obtain ⟨fr, hfrr⟩ : ∃ x, Hid ((nd ms (a2 % (m : Int)).toNat).root = x) := ⟨_, rfl⟩
  obtain ⟨je, hje⟩ : ∃ x, Hid (a1 % 6 = x) := ⟨_, rfl⟩
  obtain ⟨ep, hepp⟩ : ∃ x, Hid (a3 % 9 = x) := ⟨_, rfl⟩
  have hep : I64 ep := by rw [← hepp.out]; unfold I64; omega
  rw [hfrr.out] at hfr HVW
  rw [hje.out, hepp.out] at HVW
  go_wp2_with fail
  refine HVW.out.mono ?_
  rintro e V2 ⟨b, n, f, rfl, hS, hf, hb, hbel⟩
  have HVI := hide (via_any bs _ p je 1 0 fr ep (.map (some b)) f V2 (HT.out.below hbel) HK.out.ok hfr hep (.inr ⟨b, n, rfl, hS⟩) (fun r => Nat.le_trans (hf r) (by omega)))
  replace HT := hide (HT.out.below hbel)
  replace HN := hide (HN.out.below hbel)
  replace HB := hide (HB.out.trans (hbel.mono HB.out.size))
  obtain ⟨ok, hok⟩ : ∃ ok, Hid (okV bs je fr ep f = ok) := ⟨_, rfl⟩
  rw [hok.out] at HVI
  clear hbel hS hf hb HVW HSR HSU hj hfi hn hfr hep
  go_upto_region 5 with (go_at_call 11; refine HVI.out.mono ?_; rintro e V4 ⟨am, rfl, hM, ham, hb4⟩; have HM := hide hM; have HB4 := hide hb4; clear hM ham hb4)
  replace HT := hide (HT.out.below HB4.out)
  replace HN := hide (HN.out.below HB4.out)
  replace HB := hide (HB.out.trans (HB4.out.mono HB.out.size))
  clear HB4 HVI
  go_wp2
  go_loopw [37] (fun iv wr => ∃ k : Nat, iv = .int .i64 (k : Int) ∧ k ≤ m ∧ Hid (Below V4.heap.size V4 wr)) (fun iv _ => m - (intOf iv).toNat)
  case atStart => exact ⟨0, rfl, Nat.zero_le _, hide (Below.refl _ _)⟩
  case round =>
    obtain ⟨k, rfl, hkm, HBW⟩ := hrel
    by_cases hlt : k < m
    · obtain ⟨ng, no, rfl, hng, hcn⟩ := (HN.out.below HBW.out).2 (by omega)
      have h4 := hcn k hlt
      have hkb : k < bs.length := by have := hml.out; omega
      have hroot := hide (HMo.out.root k hkb)
      have hru := HK.out.ok.root k hkb
      have hlr := hide (ldR_of HK.out.ok ok hkb)
      have hparr : Hid (ldB bs ok k = true → U64 (nd ms k).par ∧ ldR bs ok (nd ms k).par = true) := hide (fun h => by
        rcases Nat.eq_zero_or_pos k with rfl | h0
        · have h1 : (tb bs 0).root = 1 := HK.out.root 0 (by omega)
          rw [HP1.out, ← h1]
          exact ⟨HK.out.ok.root 0 hkb, by rw [ldR_of HK.out.ok ok hkb]; exact h⟩
        · rw [HMo.out.par k h0 hkb]
          have hpl := HK.out.ok.par_le hkb
          exact ⟨HK.out.ok.root _ hpl, by rw [ldR_of HK.out.ok ok hpl]; exact ldB_par HK.out.ok h0 hkb h⟩)
      obtain ⟨nx, hnx⟩ : ∃ nx, Hid (nd ms k = nx) := ⟨_, rfl⟩
      rw [hnx.out] at h4 hroot hparr
      have LD := hide (node_load h4)
      have ST := hide (node_store wr nx)
      have HN1 := hide (OAt.new wr (.cells #[.int .u64 nx.root, .int .u64 nx.par, .int .i64 nx.slot] 39))
      have HBA := hide (HBW.out.alloc HBW.out.size (.cells #[.int .u64 nx.root, .int .u64 nx.par, .int .i64 nx.slot] 39))
      have hki : (k : Int) < (m : Int) := by omega
      clear hcn h4
      go_upto_region 8 with (first
        | (refine wpList_load_at 39 (.tmp 39) rfl rfl (.pointer (some ⟨ng, no + k * 3, none⟩)) rfl (.agg _) LD.out ?_)
        | (refine wpList_store_at 39 (.tmp 15) (.tmp 40) rfl rfl (.pointer (some ⟨wr.heap.size, 0, none⟩)) (.agg _) rfl rfl _ ST.out ?_))
      clear LD ST
      generalize wr.alloc (.cells #[.int .u64 nx.root, .int .u64 nx.par, .int .i64 nx.slot] 39) = wa at HN1 HBA ⊢
      generalize wr.heap.size = nb at HN1 ⊢
      obtain ⟨N0, N1, N2⟩ := nx
      replace hroot : N0 = (tb bs k).root := hroot.out
      replace hparr : Hid (ldB bs ok k = true → U64 N1 ∧ ldR bs ok N1 = true) := hparr
      replace HN1 : Hid (OAt wa nb (.cells #[.int .u64 N0, .int .u64 N1, .int .i64 N2] 39)) := HN1
      rw [hroot] at HN1
      clear hroot
      have HKD := hide (kids_any _ p bs _ k wa (HT.out.below HBA.out) HK.out.ok hru (idx_of HK.out.ok hkb))
      have hall := hide (ldB_all HK.out.ok ok hkb)
      have hlf : Hid (lf bs k = (tb bs k).kids.isEmpty) := hide rfl
      have HKI := hide (fun j (hj : j < (tb bs k).kids.length) => kid_idx HK.out.ok hkb hj)
      have hkn4 : (tb bs k).kids.length ≤ 1024 := Nat.le_trans (HK.out.ok.kids k hkb) HK.out.ok.lim
      generalize (tb bs k).kids = ks at HKD hall hlf HKI hkn4
      generalize (tb bs k).root = R at hru hlr HN1 HKD hall
      have q0 := HN1.out.cell 0
      have q1 := HN1.out.cell 1
      simp only [List.getElem?_toArray, List.getElem?_cons_zero, List.getElem?_cons_succ] at q0 q1
      have hl := (HM.out.below HBA.out).look R hru
      rw [hlr.out] at hl
      generalize ldB bs ok k = B at hl hall hparr
      clear HBW hnx hlr
      cases B
      · clear HKD hall hlf HKI hparr
        go_wp2
        go_roundw
        case rel => exact ⟨k + 1, by go_num, by omega, HBA⟩
        case measure => simp [intOf]; omega
      · obtain ⟨hpu, hpr⟩ := hparr.out rfl
        have hl2 := (HM.out.below HBA.out).look N1 hpu
        rw [hpr] at hl2
        clear hparr hpu hpr
        go_wp2_with fail
        refine HKD.out.mono ?_
        rintro e w6 ⟨kv, rfl, hkow, hb⟩
        obtain ⟨ka, kc, rfl, hkr⟩ := RowIn.ofOwned hkow
        have HKR := hide hkr
        have HBB := hide (HBA.out.trans (hb.mono HBA.out.size))
        obtain ⟨kn, hkn⟩ : ∃ kn, Hid (ks.length = kn) := ⟨_, rfl⟩
        rw [hkn.out] at HKR hkn4 ⊢
        have hY0 : Hid ((kn == 0) = lf bs k) := hide (by rw [hlf.out, ← hkn.out]; cases ks <;> rfl)
        clear hb hkow hkr HKD q0 q1 hl hl2 HN1 HBA
        obtain ⟨y0, hy0⟩ : ∃ y0, Hid (((kn : Int) == 0) = y0) := ⟨_, rfl⟩
        have hy1 : Hid (decide ((kn : Int) = 0) = y0) := hide (by rw [← hy0.out]; rfl)
        have hyl : Hid (y0 = lf bs k) := hide (by
          rw [← hY0.out, ← hy1.out]
          by_cases h : kn = 0
          · subst h; rfl
          · rw [decide_eq_false (by omega)]; exact (by simpa using h : (kn == 0) = false).symm)
        go_upto_region 13 with fail
        rw [hy0.out]
        have hall2 := hide (show (y0 || anyM bs ok ks) = true by
          have h := hall.out
          rw [hyl.out]
          cases h1 : lf bs k
          · rw [h1] at h; simpa using h.symm
          · rfl)
        clear hy0 hy1 hyl hY0 hlf hall
        go_wp2
        go_loopw [17, 60] (fun yv iv wq => ∃ j : Nat, iv = .int .i64 (j : Int) ∧ j ≤ kn ∧ ∃ Y, yv = .bool Y ∧ Hid (Y = (y0 || anyM bs ok (ks.take j)) ∧ Below w6.heap.size w6 wq)) (fun _ iv _ => kn - (intOf iv).toNat)
        case atStart => exact ⟨0, rfl, Nat.zero_le _, y0, rfl, hide ⟨by simp [anyM], Below.refl _ _⟩⟩
        case round =>
          obtain ⟨j, rfl, hjk, Y, rfl, hI⟩ := hrel
          have HY := hide hI.out.1
          have HBQ := hide hI.out.2
          clear hI
          by_cases hjlt : j < kn
          · obtain ⟨gb, off, rfl, hgs, hck⟩ := (HKR.out.below HBQ.out).cell j hjlt
            obtain ⟨q, hq1, hq2, hq3⟩ := HKI.out j (by rw [hkn.out]; exact hjlt)
            have hs1 := hide (anyM_take bs ok ks (j := j) (by rw [hkn.out]; exact hjlt))
            have hxu := HK.out.ok.root q hq2
            rw [← hq3] at hxu
            have hl := (HM.out.below (HBB.out.trans (HBQ.out.mono HBB.out.size))).look (ks.getD j 0) hxu
            generalize ks.getD j 0 = x at hck hxu hl hs1
            generalize ldR bs ok x = B2 at hl hs1
            have hji : (j : Int) < (kn : Int) := by omega
            clear hq1 hq2 hq3
            cases Y
            · go_wp2
              go_roundw
              case rel => exact ⟨j + 1, by go_num, by omega, B2, rfl, hide ⟨by rw [hs1.out, ← Bool.or_assoc, ← HY.out]; rfl, HBQ.out⟩⟩
              case measure => simp [intOf]; omega
            · go_wp2
              go_roundw
              case rel => exact ⟨j + 1, by go_num, by omega, true, rfl, hide ⟨by rw [hs1.out, ← Bool.or_assoc, ← HY.out]; rfl, HBQ.out⟩⟩
              case measure => simp [intOf]; omega
          · have hjn : j = kn := by omega
            subst hjn
            have htk : ks.take j = ks := by rw [← hkn.out]; exact List.take_length
            rw [htk, hall2.out] at HY
            have hYt : Y = true := HY.out
            subst hYt
            have HBZ := hide (HBB.out.trans (HBQ.out.mono HBB.out.size))
            clear HY hall2 HKI HKR HBQ HBB htk hjk
            go_wp2
            go_roundw
            case rel => exact ⟨k + 1, by go_num, by omega, HBZ⟩
            case measure => simp [intOf]; omega
    · have hkm2 : k = m := by omega
      have hkm3 : ¬ ((k : Int) < (m : Int)) := by omega
      have HE := hide (HB.out.trans (HBW.out.mono HB.out.size))
      clear HM HN HK HMo HBW hms HT HP1
      go_wp2
      go_ret
      exact ⟨by simp, HE.out⟩

set_option maxRecDepth 100000 in
theorem lifted (os : Os) (started : os.Started) (H : Type) (enc : TypeId × Value → H) :
    ReturnsInHanded {} Try.checked os 4 .any (Rows.viableUpSpec.pre6 enc Try.prog Try.f4 Rows.viableUpRow.domain false) (Rows.viableUpSpec.post enc Try.prog Try.f4 false true false false) := by
  refine returnsInHanded_of_change (C := Try.checked) own started (by kernel_rfl) Try.func4
    (ChangeSpec.witness6 (enc := enc) (C := Try.checked) false ⟨#[], #[.slice none 0 0, .int .u8 0, .int .u8 0, .int .u8 0, .slice none 0 0], []⟩ 8 (by kernel_rfl) (by kernel_rfl) (by kernel_rfl) (by kernel_rfl)) ?_
  intro W base args ds gs before hval0 hW hcnd _
  have hval : ∀ (j : Nat) t v, Try.f4.params[j]? = some t → args[j]? = some v → Value.okWide Try.prog W .any base t v := hval0
  have hW' := hW
  obtain ⟨p, q, hA0, hV, rfl, hfz, hnd⟩ := hW
  have hA : DataW.TrodAll enc Try.prog W 0 (fun _ => true) true Try.f4.params.toList args.toList ds p := hA0
  rw [Try.params4] at hA hval
  obtain ⟨v0, vs0, d0, ds0, p0, q0, hargs, rfl, rfl, h0, r0⟩ := trodAll_cons hA
  obtain ⟨v1, vs1, d1, ds1, p1, q1, rfl, rfl, rfl, h1, r1⟩ := trodAll_cons r0
  obtain ⟨v2, vs2, d2, ds2, p2, q2, rfl, rfl, rfl, h2, r2⟩ := trodAll_cons r1
  obtain ⟨v3, vs3, d3, ds3, p3, q3, rfl, rfl, rfl, h3, r3⟩ := trodAll_cons r2
  obtain ⟨v4, vs4, d4, ds4, p4, q4, rfl, rfl, rfl, h4, r4⟩ := trodAll_cons r3
  obtain ⟨rfl, rfl, rfl⟩ := trodAll_nil r4
  obtain rfl : args = #[v0, v1, v2, v3, v4] := by cases args; simp_all
  obtain ⟨rfl, rfl⟩ := trodVars_none hV
  obtain ⟨a0, len0, cap0, rfl⟩ := okWide_slice Try.underlying22 (hval 0 22 v0 rfl rfl)
  have k0 := h0
  have lt0 : ∀ x ∈ p0, x.block < W.heap.size := by obtain ⟨m, hm⟩ := k0; exact DataW.trod_lt m _ _ _ hm
  obtain ⟨z0, w0⟩ : ∃ zs, IsRow .u8 W a0 len0 cap0 zs := by
    obtain ⟨fuel, hf⟩ := h0
    rcases open_ints Try.underlying22 Try.underlying5 (by kernel_rfl) hf with ⟨hcs, _⟩ | ⟨x, l, c, zs, hcs, _, hl, hm, hz, _, hcell, hwz⟩
    · simp [Value.cells] at hcs
      obtain ⟨rfl, rfl, rfl⟩ := hcs
      exact ⟨[], .inl ⟨rfl, rfl, rfl, rfl⟩⟩
    · simp [Value.cells] at hcs
      obtain ⟨rfl, rfl, rfl⟩ := hcs
      exact ⟨zs, .inr ⟨_, rfl, hl, hm, by simpa using hz, hcell, hwz⟩⟩
  obtain ⟨a1, rfl, rfl, rfl, w1⟩ := open_int Try.underlying5 (hval 1 5 v1 rfl rfl) h1
  obtain ⟨a2, rfl, rfl, rfl, w2⟩ := open_int Try.underlying5 (hval 2 5 v2 rfl rfl) h2
  obtain ⟨a3, rfl, rfl, rfl, w3⟩ := open_int Try.underlying5 (hval 3 5 v3 rfl rfl) h3
  obtain ⟨a4, len4, cap4, rfl⟩ := okWide_slice Try.underlying22 (hval 4 22 v4 rfl rfl)
  have k4 := h4
  have lt4 : ∀ x ∈ p4, x.block < W.heap.size := by obtain ⟨m, hm⟩ := k4; exact DataW.trod_lt m _ _ _ hm
  obtain ⟨z4, w4⟩ : ∃ zs, IsRow .u8 W a4 len4 cap4 zs := by
    obtain ⟨fuel, hf⟩ := h4
    rcases open_ints Try.underlying22 Try.underlying5 (by kernel_rfl) hf with ⟨hcs, _⟩ | ⟨x, l, c, zs, hcs, _, hl, hm, hz, _, hcell, hwz⟩
    · simp [Value.cells] at hcs
      obtain ⟨rfl, rfl, rfl⟩ := hcs
      exact ⟨[], .inl ⟨rfl, rfl, rfl, rfl⟩⟩
    · simp [Value.cells] at hcs
      obtain ⟨rfl, rfl, rfl⟩ := hcs
      exact ⟨zs, .inr ⟨_, rfl, hl, hm, by simpa using hz, hcell, hwz⟩⟩
  clear hA0 hval0
  refine (walk a0 len0 cap0 z0 a1 a2 a3 a4 len4 cap4 z4 W w0 w1 w2 w3 w4).mono fun e W' ⟨he, bel⟩ => ?_
  subst he
  exact ⟨_, rfl, _, _, _, [], _, [], hW', trodAll_mk1 (shut_bool Try.underlying4 _), (trodAll_cons_mk (Below.trod laidOut (by kernel_rfl) (of_decide_eq_true (by kernel_rfl)) k0 bel lt0) (trodAll_cons_mk (shut_int Try.underlying5 w1) (trodAll_cons_mk (shut_int Try.underlying5 w2) (trodAll_cons_mk (shut_int Try.underlying5 w3) (trodAll_cons_mk (Below.trod laidOut (by kernel_rfl) (of_decide_eq_true (by kernel_rfl)) k4 bel lt4) trodAll_mk0))))), rfl, bel.frame _, fun h => by cases h⟩

theorem over : Rows.viableUpRow.holds Try.pinned (OpenSpec.ofChange Rows.viableUpSpec) :=
  OpenClaim.holds_of_wide 4 Try.f4 rfl rfl rfl rfl rfl rfl rfl ⟨rfl, rfl, rfl, rfl, rfl⟩ rfl rfl rfl rfl rfl (by kernel_rfl) Try.func4 (by kernel_rfl)
    (of_decide_eq_true (by kernel_rfl)) (by unfold Func.isWrapper; first | (rw [if_pos (by decide +kernel)]; kernel_rfl) | (rw [if_neg (by decide +kernel)]; exact ⟨rfl, rfl⟩))
    (fun os started H enc _ => lifted os started H enc)

theorem proved : Rows.ViableUpSaid := over
end Go.Proofs.Ytefbgocaoillkaa.viableUp

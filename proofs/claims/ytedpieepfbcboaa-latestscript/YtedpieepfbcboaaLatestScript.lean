/-
  votes that are taken, and banned, are what the document says, deed by deed (LatestScript is true of every input).
-/
import Derived.Test.YtedpieepfbcboaaRows

import Derived.WalkKit

import Derived.Below

import Derived.ProofKit

import Derived.OpenShut

import Derived.ShutString

import Derived.ChangeOld

import Derived.Test.YtedpieepfbcboaaShapes

import Derived.Test.YtedpieepfbcboaaEntActs

namespace Go.Proofs.Ytedpieepfbcboaa.latestScript

open Go.ChangeShapes Go.WideShapes Go.ChangeAt Go.RowKit

set_option linter.unusedVariables false

theorem own : ownKnob Try.prog.godebug = none := by kernel_rfl
theorem laidOut : laidOutB Try.prog = true := by kernel_rfl
theorem cells4 : Try.prog.cellsOf 4 = 1 := by kernel_rfl
theorem cells5 : Try.prog.cellsOf 5 = 1 := by kernel_rfl
theorem cells32 : Try.prog.cellsOf 32 = 1 := by kernel_rfl
theorem cells62 : Try.prog.cellsOf 62 = 1 := by kernel_rfl
theorem cells66 : Try.prog.cellsOf 66 = 1 := by kernel_rfl
theorem cells68 : Try.prog.cellsOf 68 = 4 := by kernel_rfl
theorem has5 : Sh.Has Try.prog (.int .u8) (.inl 5) := Try.underlying5
theorem has66 : Sh.Has Try.prog (.int .i8) (.inl 66) := Try.underlying66
theorem has32 : Sh.Has Try.prog (.int .u64) (.inl 32) := Try.underlying32
theorem has68 : Sh.Has Try.prog (.st (.pair (.int .u8) (.pair (.int .i8) (.pair (.int .i8) (.pair (.int .u64) .unit))))) (.inl 68) := Sh.has_st Try.underlying68 (by kernel_rfl) (Sh.has_pair rfl (by kernel_rfl) has5 (Sh.has_pair rfl (by kernel_rfl) has66 (Sh.has_pair rfl (by kernel_rfl) has66 (Sh.has_pair rfl (by kernel_rfl) has32 Sh.has_unit))))
theorem has62 : Sh.Has Try.prog (.slice (.st (.pair (.int .u8) (.pair (.int .i8) (.pair (.int .i8) (.pair (.int .u64) .unit)))))) (.inl 62) := Sh.has_slice Try.underlying62 (by kernel_rfl) (by decide) has68

set_option maxRecDepth 100000 in
set_option maxHeartbeats 16000000 in
set_option maxRecDepth 100000 in
theorem walk (a0 : Int) (a1 : Option Addr) (len1 cap1 : Nat) (e1 : Sh.Val (.slice (.st (.pair (.int .u8) (.pair (.int .i8) (.pair (.int .i8) (.pair (.int .u64) .unit))))))) (w : World) (w0 : (Lit.int .u8 a0).wf = true) (w1 : Sh.In (.slice (.st (.pair (.int .u8) (.pair (.int .i8) (.pair (.int .i8) (.pair (.int .u64) .unit)))))) w [.slice a1 len1 cap1] e1) :
    Calls Try.prog 6 #[.int .u8 a0, .slice a1 len1 cap1] w fun e w' => e = .returned (.bool true) ∧ Below w.heap.size w w' := by
  have HA := hide (deeds_of w1)
  have hN := wf_u8e w0
  clear w0 w1
  have hml : len1 ≤ 9223372036854775807 := by have := HA.out.1; unfold maxLen at this; omega
  obtain ⟨n, hn⟩ : ∃ n : Nat, Hid (a0 % 8 = (n : Int)) := ⟨(a0 % 8).toNat, by show _ = _; omega⟩
  have hn7 : n ≤ 7 := by have := hn.out; omega
  obtain ⟨i0, hi0, hz0, hz1, hz2⟩ := info_parts infoE
  have hby : i0.bytes * n ≤ 281474976710656 := by rw [hz2]; omega
  have hnm : n ≤ maxLen := by unfold maxLen; omega
  clear hz2
  go_enter Try.func6, Try.ntmps6
  go_wp2_with fail
  refine (awake_any _).mono ?_
  rintro e w1 ⟨rfl, hb1⟩
  have HB1 := hide hb1
  clear hb1
  go_upto_region 4 with fail
  rw [hn.out]
  clear hn
  go_wp2_with fail
  refine (of_ent (n : Int) w1 ⟨by omega, by omega⟩).mono ?_
  rintro e w2 ⟨g, rfl, ho, hg, hb⟩
  rw [show sizeE (n : Int) = n from by rw [sizeE_of _ ⟨by omega, by omega⟩]; omega] at ho ⊢
  have HB2 := HB1.out.trans (hb.mono HB1.out.size)
  have HG := hide (Nat.le_trans HB1.out.size hg)
  have hgl := ho.lt
  have HO := hide (ho.alloc (eobj (List.replicate n Ent.zero)))
  have HH := hide (OAt.new w2 (eobj (List.replicate n Ent.zero)))
  have HB := hide (HB2.alloc HB2.size (eobj (List.replicate n Ent.zero)))
  have HZ := hide (zero_cells n)
  clear ho hb hg HB1 HB2
  go_upto_region 6 with (at_make; refine wpList_make_cells _ rfl _ _ 63 rfl 71 i0 _ 4 Try.underlying63 hi0 hz0 hz1 _ _ _ n rfl rfl rfl hby hnm ?_)
  simp only [HZ.out]
  generalize hW3 : w2.alloc (eobj (List.replicate n Ent.zero)) = w3 at *
  obtain ⟨h, hh⟩ : ∃ x, Hid (w2.heap.size = x) := ⟨_, rfl⟩
  rw [hh.out] at hgl HH ⊢
  clear hW3 hh HZ hi0 hz0 hz1 hby hnm
  go_wp2_with fail
  go_loopw [31] (fun v wr => ∃ i : Nat, v = .int .i64 (i : Int) ∧ i ≤ len1 ∧ Hid (∃ es, OAt wr g (eobj es) ∧ OAt wr h (eobj es) ∧ es.length = n ∧ Below w.heap.size w wr)) (fun v _ => len1 - (intOf v).toNat)
  case atStart => exact ⟨0, rfl, Nat.zero_le _, hide ⟨_, HO.out, HH.out, List.length_replicate, HB.out⟩⟩
  case round =>
    obtain ⟨i, rfl, hil, hI⟩ := hrel
    obtain ⟨es, ho, hh, hl, hbl⟩ := hI.out
    clear hI HO HH HB
    have HO := hide ho
    have HH := hide hh
    have HB := hide hbl
    clear ho hh hbl
    by_cases hlt : i < len1
    · obtain ⟨b, off, rfl, hbl, hc⟩ := (HA.out.below HB.out).2 (by omega)
      obtain ⟨x0, x1, x2, x3, b0, b1, b2, b3, h4⟩ := hc i hlt
      have LD := hide (deed_load h4)
      have ST := hide (deed_store wr x0 x1 x2 x3)
      have HV := hide (OAt.new wr (dobj x0 x1 x2 x3))
      have hhl := HH.out.lt
      replace HO := hide (HO.out.alloc (dobj x0 x1 x2 x3))
      replace HH := hide (HH.out.alloc (dobj x0 x1 x2 x3))
      replace HB := hide (HB.out.alloc HB.out.size (dobj x0 x1 x2 x3))
      have hli : (i : Int) < (len1 : Int) := by omega
      clear hc h4 hbl
      go_upto_region 11 with (first
        | (refine wpList_load_at 68 (.tmp 33) rfl rfl (.pointer (some ⟨b, off + i * 4, none⟩)) rfl (.agg _) LD.out ?_)
        | (refine wpList_store_at 68 (.tmp 9) (.tmp 34) rfl rfl (.pointer (some ⟨wr.heap.size, 0, none⟩)) (.agg _) rfl rfl _ ST.out ?_))
      clear LD ST
      go_frame
      generalize wr.alloc (dobj x0 x1 x2 x3) = wa at HV HO HH HB ⊢
      have q0 := HV.out.cell 0
      have q1 := HV.out.cell 1
      have q2 := HV.out.cell 2
      have q3 := HV.out.cell 3
      simp only [List.getElem?_toArray, List.getElem?_cons_zero, List.getElem?_cons_succ] at q0 q1 q2 q3
      generalize wr.heap.size = va at HV q0 q1 q2 q3 hhl ⊢
      have hw1 : IntKind.i64.wrap x1 = x1 := by rw [IntKind.wrap_i64]; omega
      have hw2 : IntKind.i64.wrap x2 = x2 := by rw [IntKind.wrap_i64]; omega
      by_cases hneg : x1 < 0
      · have hout : ¬ (0 ≤ x1 ∧ x1 < es.length) := by omega
        by_cases hop : x0 % 5 = 4
        · have hop1 : (x0 % 5 == 4) = true := by simp [hop]
          have hop2 : decide (x0 % 5 = 4) = true := decide_eq_true hop
          clear hop
          have B1 := hide (fun w' (h : OAt w' g (eobj es)) => ban_any es g n x1 w' h hl (by omega) ⟨by omega, by omega⟩)
          rw [ct_out es x1 hout, banE_no es _ (ct_out es x1 hout)] at B1
          have G1 := hide (fun w' (h : OAt w' g (eobj es)) => get_any es g n x1 w' h hl (by omega) ⟨by omega, by omega⟩)
          rw [(get_out es x1 hout).1, (get_out es x1 hout).2] at G1
          clear hout
          go_wp2_with fail
          refine (B1.out _ HO.out).mono ?_
          rintro e w5 ⟨rfl, ho, ha⟩
          have HO5 := hide ho
          have HH5 := hide (HH.out.apart ha (by omega))
          have HB5 := hide (turned HB.out ha HB.out.size HG.out)
          clear ho ha B1 HO HH HB
          go_wp2_with fail
          refine (G1.out _ HO5.out).mono ?_
          rintro e w' ⟨rfl, hw⟩
          obtain rfl : _ = w' := hw.symm
          have HI : Hid (∃ es, OAt w5 g (eobj es) ∧ OAt w5 h (eobj es) ∧ es.length = n ∧ Below w.heap.size w w5) := hide ⟨es, HO5.out, HH5.out, hl, HB5.out⟩
          clear HO5 HH5 HB5 G1
          go_wp2
          go_roundw
          case rel => exact ⟨i + 1, by go_num, by omega, HI⟩
          case measure => simp [intOf]; omega
        · have B1 := hide (fun w' (h : OAt w' g (eobj es)) => take_any es g n x1 x2 x3 w' h hl (by omega) ⟨by omega, by omega⟩ ⟨by omega, by omega⟩)
          rw [take_out es x1 x2 hout, takeE_no es _ _ _ (take_out es x1 x2 hout)] at B1
          have G1 := hide (fun w' (h : OAt w' g (eobj es)) => get_any es g n x1 w' h hl (by omega) ⟨by omega, by omega⟩)
          rw [(get_out es x1 hout).1, (get_out es x1 hout).2] at G1
          clear hout
          go_upto_region 18 with fail
          go_quiet (fail)
          replace HO := hide (HO.out.below (below_drewN (Below.refl _ _) nq))
          replace HH := hide (HH.out.below (below_drewN (Below.refl _ _) nq))
          replace HB := hide (below_drewN HB.out nq)
          have q2 : (wa.drewN nq).cell? ⟨va, 2, none⟩ = some (.int .i8 x2) := q2
          have q3 : (wa.drewN nq).cell? ⟨va, 3, none⟩ = some (.int .u64 x3) := q3
          generalize wa.drewN nq = wb at HO HH HB q2 q3 ⊢
          go_wp2_with fail
          refine (B1.out _ HO.out).mono ?_
          rintro e w5 ⟨rfl, ho, ha⟩
          have HO5 := hide ho
          have HH5 := hide (HH.out.apart ha (by omega))
          have HB5 := hide (turned HB.out ha HB.out.size HG.out)
          clear ho ha B1 HO HH HB
          go_wp2_with fail
          refine (G1.out _ HO5.out).mono ?_
          rintro e w' ⟨rfl, hw⟩
          obtain rfl : _ = w' := hw.symm
          have HI : Hid (∃ es, OAt w5 g (eobj es) ∧ OAt w5 h (eobj es) ∧ es.length = n ∧ Below w.heap.size w w5) := hide ⟨es, HO5.out, HH5.out, hl, HB5.out⟩
          clear HO5 HH5 HB5 G1
          go_wp2
          go_roundw
          case rel => exact ⟨i + 1, by go_num, by omega, HI⟩
          case measure => simp [intOf]; omega
      · by_cases hbig : (n : Int) ≤ x1
        · have hdb : decide (x1 < (n : Int)) = false := decide_eq_false (by omega)
          have hout : ¬ (0 ≤ x1 ∧ x1 < es.length) := by omega
          by_cases hop : x0 % 5 = 4
          · have hop1 : (x0 % 5 == 4) = true := by simp [hop]
            have hop2 : decide (x0 % 5 = 4) = true := decide_eq_true hop
            clear hop
            have B1 := hide (fun w' (h : OAt w' g (eobj es)) => ban_any es g n x1 w' h hl (by omega) ⟨by omega, by omega⟩)
            rw [ct_out es x1 hout, banE_no es _ (ct_out es x1 hout)] at B1
            have G1 := hide (fun w' (h : OAt w' g (eobj es)) => get_any es g n x1 w' h hl (by omega) ⟨by omega, by omega⟩)
            rw [(get_out es x1 hout).1, (get_out es x1 hout).2] at G1
            clear hout
            go_wp2_with fail
            refine (B1.out _ HO.out).mono ?_
            rintro e w5 ⟨rfl, ho, ha⟩
            have HO5 := hide ho
            have HH5 := hide (HH.out.apart ha (by omega))
            have HB5 := hide (turned HB.out ha HB.out.size HG.out)
            clear ho ha B1 HO HH HB
            go_wp2_with fail
            refine (G1.out _ HO5.out).mono ?_
            rintro e w' ⟨rfl, hw⟩
            obtain rfl : _ = w' := hw.symm
            have HI : Hid (∃ es, OAt w5 g (eobj es) ∧ OAt w5 h (eobj es) ∧ es.length = n ∧ Below w.heap.size w w5) := hide ⟨es, HO5.out, HH5.out, hl, HB5.out⟩
            clear HO5 HH5 HB5 G1
            go_wp2
            go_roundw
            case rel => exact ⟨i + 1, by go_num, by omega, HI⟩
            case measure => simp [intOf]; omega
          · have B1 := hide (fun w' (h : OAt w' g (eobj es)) => take_any es g n x1 x2 x3 w' h hl (by omega) ⟨by omega, by omega⟩ ⟨by omega, by omega⟩)
            rw [take_out es x1 x2 hout, takeE_no es _ _ _ (take_out es x1 x2 hout)] at B1
            have G1 := hide (fun w' (h : OAt w' g (eobj es)) => get_any es g n x1 w' h hl (by omega) ⟨by omega, by omega⟩)
            rw [(get_out es x1 hout).1, (get_out es x1 hout).2] at G1
            clear hout
            go_upto_region 18 with fail
            go_quiet (fail)
            replace HO := hide (HO.out.below (below_drewN (Below.refl _ _) nq))
            replace HH := hide (HH.out.below (below_drewN (Below.refl _ _) nq))
            replace HB := hide (below_drewN HB.out nq)
            have q2 : (wa.drewN nq).cell? ⟨va, 2, none⟩ = some (.int .i8 x2) := q2
            have q3 : (wa.drewN nq).cell? ⟨va, 3, none⟩ = some (.int .u64 x3) := q3
            generalize wa.drewN nq = wb at HO HH HB q2 q3 ⊢
            go_wp2_with fail
            refine (B1.out _ HO.out).mono ?_
            rintro e w5 ⟨rfl, ho, ha⟩
            have HO5 := hide ho
            have HH5 := hide (HH.out.apart ha (by omega))
            have HB5 := hide (turned HB.out ha HB.out.size HG.out)
            clear ho ha B1 HO HH HB
            go_wp2_with fail
            refine (G1.out _ HO5.out).mono ?_
            rintro e w' ⟨rfl, hw⟩
            obtain rfl : _ = w' := hw.symm
            have HI : Hid (∃ es, OAt w5 g (eobj es) ∧ OAt w5 h (eobj es) ∧ es.length = n ∧ Below w.heap.size w w5) := hide ⟨es, HO5.out, HH5.out, hl, HB5.out⟩
            clear HO5 HH5 HB5 G1
            go_wp2
            go_roundw
            case rel => exact ⟨i + 1, by go_num, by omega, HI⟩
            case measure => simp [intOf]; omega
        · obtain ⟨k, rfl⟩ : ∃ k : Nat, x1 = (k : Int) := ⟨x1.toNat, by omega⟩
          have hk : k < n := by omega
          have hkl : k < es.length := by omega
          obtain ⟨⟨xh, xe, xr, xb⟩, hx⟩ : ∃ x, entK es k = x := ⟨_, rfl⟩
          have hn0 : ¬ (n : Int) = 0 := by omega
          have hws : IntKind.i64.wrap ((n : Int) - 1) = (n : Int) - 1 := by rw [IntKind.wrap_i64]; omega
          clear hneg hbig
          obtain ⟨ob, hob⟩ : ∃ y, (x0 % 5 == 4) = y := ⟨_, rfl⟩
          have hob2 : decide (x0 % 5 = 4) = ob := by rw [← hob]; rfl
          go_upto_if 48 with fail
          clear hob hob2
          go_cut [12] from 49 to 118 (fun _ wx => Hid (∃ es, OAt wx g (eobj es) ∧ OAt wx h (eobj es) ∧ es.length = n ∧ Below w.heap.size w wx))
          case first =>
            cases ob
            · cases xb
              · cases xh
                · have t1 : takeB es (k : Int) x2 = true := by
                    rw [take_nat es k hkl _ hx x2]
                    show (!false && !(false && decide (x2 ≤ xe))) = _
                    rfl
                  have B1 := hide (fun w' (h : OAt w' g (eobj es)) => take_any es g n k x2 x3 w' h hl (by omega) ⟨by omega, by omega⟩ ⟨by omega, by omega⟩)
                  rw [t1, takeE_nat es k hkl x2 x3 t1] at B1
                  obtain ⟨c0, c1, c2, c3⟩ := ent_cells HH.out k hkl _ hx
                  simp only at c0 c1 c2 c3
                  obtain ⟨e2, he2⟩ : ∃ y, Hid (es.set k ⟨true, x2, x3, false⟩ = y) := ⟨_, rfl⟩
                  have hz2 : entK e2 k = ⟨true, x2, x3, false⟩ := by rw [← he2.out, entK_set _ _ _ _ hkl, if_pos rfl]
                  have hl2 : e2.length = n := by rw [← he2.out, List.length_set]; exact hl
                  have hkl2 : k < e2.length := by omega
                  have P := hide (fun w' (h1 : OAt w' h (eobj es)) => ent_store h1 k hkl ⟨true, x2, x3, false⟩)
                  simp only [he2.out] at B1 P
                  clear t1
                  go_upto_region 18 with fail
                  go_quiet (fail)
                  replace HO := hide (HO.out.below (below_drewN (Below.refl _ _) nq))
                  replace HH := hide (HH.out.below (below_drewN (Below.refl _ _) nq))
                  replace HB := hide (below_drewN HB.out nq)
                  replace HV := hide (HV.out.below (below_drewN (Below.refl _ _) nq))
                  replace q2 : (wa.drewN nq).cell? ⟨va, 2, none⟩ = some (.int .i8 x2) := q2
                  replace q3 : (wa.drewN nq).cell? ⟨va, 3, none⟩ = some (.int .u64 x3) := q3
                  clear c0 c1 c2 c3 q0 q1
                  generalize wa.drewN nq = wb at HO HH HB HV q2 q3 ⊢
                  go_wp2_with fail
                  refine (B1.out _ HO.out).mono ?_
                  rintro e w5 ⟨rfl, ho, ha⟩
                  have hh5 := HH.out.apart ha (by omega)
                  obtain ⟨w6, hrun, hh6, ha6⟩ := P.out _ hh5
                  have HRUN := hide hrun
                  have hv := HV.out.apart ha (by omega)
                  have p2 := hv.cell 2
                  have p3 := hv.cell 3
                  simp only [List.getElem?_toArray, List.getElem?_cons_zero, List.getElem?_cons_succ] at p2 p3
                  have HO5 := hide (ho.apart ha6 (by omega))
                  have HB5 := turned HB.out ha HB.out.size HG.out
                  have HI : Hid (∃ es, OAt w6 g (eobj es) ∧ OAt w6 h (eobj es) ∧ es.length = n ∧ Below w.heap.size w w6) := hide ⟨e2, HO5.out, hh6, hl2, HB5.trans (ha6.old _ HB5.size (by have := HG.out; omega))⟩
                  clear ho ha B1 HO HH HB P hrun hh5 hh6 ha6 hv he2 hx hz2 q2 q3 HB5 HO5
                  go_wp2_with (refine wpList_store_at 71 (.tmp 118) (.tmp 117) rfl rfl _ _ rfl rfl w6 HRUN.out ?_)
                  go_meet
                  exact HI
                · by_cases hle : x2 ≤ xe
                  · have t1 : takeB es (k : Int) x2 = false := by
                      rw [take_nat es k hkl _ hx x2]
                      show (!false && !(true && decide (x2 ≤ xe))) = _
                      rw [decide_eq_true (by omega)]; rfl
                    have B1 := hide (fun w' (h : OAt w' g (eobj es)) => take_any es g n k x2 x3 w' h hl (by omega) ⟨by omega, by omega⟩ ⟨by omega, by omega⟩)
                    rw [t1, takeE_no es _ _ _ t1] at B1
                    obtain ⟨c0, c1, c2, c3⟩ := ent_cells HH.out k hkl _ hx
                    simp only at c0 c1 c2 c3
                    have hd : decide (xe < x2) = false := decide_eq_false (by omega)
                    clear t1
                    go_upto_region 18 with fail
                    go_quiet (fail)
                    replace HO := hide (HO.out.below (below_drewN (Below.refl _ _) nq))
                    replace HH := hide (HH.out.below (below_drewN (Below.refl _ _) nq))
                    replace HB := hide (below_drewN HB.out nq)
                    replace HV := hide (HV.out.below (below_drewN (Below.refl _ _) nq))
                    replace q2 : (wa.drewN nq).cell? ⟨va, 2, none⟩ = some (.int .i8 x2) := q2
                    replace q3 : (wa.drewN nq).cell? ⟨va, 3, none⟩ = some (.int .u64 x3) := q3
                    clear c0 c1 c2 c3 q0 q1
                    generalize wa.drewN nq = wb at HO HH HB HV q2 q3 ⊢
                    go_wp2_with fail
                    refine (B1.out _ HO.out).mono ?_
                    rintro e w5 ⟨rfl, ho, ha⟩
                    have HI : Hid (∃ es, OAt w5 g (eobj es) ∧ OAt w5 h (eobj es) ∧ es.length = n ∧ Below w.heap.size w w5) := hide ⟨es, ho, HH.out.apart ha (by omega), hl, turned HB.out ha HB.out.size HG.out⟩
                    clear ho ha B1 HO HH HB hx q2 q3
                    go_wp2
                    go_meet
                    exact HI
                  · have t1 : takeB es (k : Int) x2 = true := by
                      rw [take_nat es k hkl _ hx x2]
                      show (!false && !(true && decide (x2 ≤ xe))) = _
                      rw [decide_eq_false (by omega)]; rfl
                    have B1 := hide (fun w' (h : OAt w' g (eobj es)) => take_any es g n k x2 x3 w' h hl (by omega) ⟨by omega, by omega⟩ ⟨by omega, by omega⟩)
                    rw [t1, takeE_nat es k hkl x2 x3 t1] at B1
                    obtain ⟨c0, c1, c2, c3⟩ := ent_cells HH.out k hkl _ hx
                    simp only at c0 c1 c2 c3
                    have hd : decide (xe < x2) = true := decide_eq_true (by omega)
                    obtain ⟨e2, he2⟩ : ∃ y, Hid (es.set k ⟨true, x2, x3, false⟩ = y) := ⟨_, rfl⟩
                    have hz2 : entK e2 k = ⟨true, x2, x3, false⟩ := by rw [← he2.out, entK_set _ _ _ _ hkl, if_pos rfl]
                    have hl2 : e2.length = n := by rw [← he2.out, List.length_set]; exact hl
                    have hkl2 : k < e2.length := by omega
                    have P := hide (fun w' (h1 : OAt w' h (eobj es)) => ent_store h1 k hkl ⟨true, x2, x3, false⟩)
                    simp only [he2.out] at B1 P
                    clear t1
                    go_upto_region 18 with fail
                    go_quiet (fail)
                    replace HO := hide (HO.out.below (below_drewN (Below.refl _ _) nq))
                    replace HH := hide (HH.out.below (below_drewN (Below.refl _ _) nq))
                    replace HB := hide (below_drewN HB.out nq)
                    replace HV := hide (HV.out.below (below_drewN (Below.refl _ _) nq))
                    replace q2 : (wa.drewN nq).cell? ⟨va, 2, none⟩ = some (.int .i8 x2) := q2
                    replace q3 : (wa.drewN nq).cell? ⟨va, 3, none⟩ = some (.int .u64 x3) := q3
                    clear c0 c1 c2 c3 q0 q1
                    generalize wa.drewN nq = wb at HO HH HB HV q2 q3 ⊢
                    go_wp2_with fail
                    refine (B1.out _ HO.out).mono ?_
                    rintro e w5 ⟨rfl, ho, ha⟩
                    have hh5 := HH.out.apart ha (by omega)
                    obtain ⟨w6, hrun, hh6, ha6⟩ := P.out _ hh5
                    have HRUN := hide hrun
                    have hv := HV.out.apart ha (by omega)
                    have p2 := hv.cell 2
                    have p3 := hv.cell 3
                    simp only [List.getElem?_toArray, List.getElem?_cons_zero, List.getElem?_cons_succ] at p2 p3
                    have HO5 := hide (ho.apart ha6 (by omega))
                    have HB5 := turned HB.out ha HB.out.size HG.out
                    have HI : Hid (∃ es, OAt w6 g (eobj es) ∧ OAt w6 h (eobj es) ∧ es.length = n ∧ Below w.heap.size w w6) := hide ⟨e2, HO5.out, hh6, hl2, HB5.trans (ha6.old _ HB5.size (by have := HG.out; omega))⟩
                    clear ho ha B1 HO HH HB P hrun hh5 hh6 ha6 hv he2 hx hz2 q2 q3 HB5 HO5
                    go_wp2_with (refine wpList_store_at 71 (.tmp 118) (.tmp 117) rfl rfl _ _ rfl rfl w6 HRUN.out ?_)
                    go_meet
                    exact HI
              · cases xh
                · have t1 : takeB es (k : Int) x2 = false := by
                    rw [take_nat es k hkl _ hx x2]
                    show (!true && !(false && decide (x2 ≤ xe))) = _
                    rfl
                  have B1 := hide (fun w' (h : OAt w' g (eobj es)) => take_any es g n k x2 x3 w' h hl (by omega) ⟨by omega, by omega⟩ ⟨by omega, by omega⟩)
                  rw [t1, takeE_no es _ _ _ t1] at B1
                  obtain ⟨c0, c1, c2, c3⟩ := ent_cells HH.out k hkl _ hx
                  simp only at c0 c1 c2 c3
                  clear t1
                  go_upto_region 18 with fail
                  go_quiet (fail)
                  replace HO := hide (HO.out.below (below_drewN (Below.refl _ _) nq))
                  replace HH := hide (HH.out.below (below_drewN (Below.refl _ _) nq))
                  replace HB := hide (below_drewN HB.out nq)
                  replace HV := hide (HV.out.below (below_drewN (Below.refl _ _) nq))
                  replace q2 : (wa.drewN nq).cell? ⟨va, 2, none⟩ = some (.int .i8 x2) := q2
                  replace q3 : (wa.drewN nq).cell? ⟨va, 3, none⟩ = some (.int .u64 x3) := q3
                  clear c0 c1 c2 c3 q0 q1
                  generalize wa.drewN nq = wb at HO HH HB HV q2 q3 ⊢
                  go_wp2_with fail
                  refine (B1.out _ HO.out).mono ?_
                  rintro e w5 ⟨rfl, ho, ha⟩
                  have HI : Hid (∃ es, OAt w5 g (eobj es) ∧ OAt w5 h (eobj es) ∧ es.length = n ∧ Below w.heap.size w w5) := hide ⟨es, ho, HH.out.apart ha (by omega), hl, turned HB.out ha HB.out.size HG.out⟩
                  clear ho ha B1 HO HH HB hx q2 q3
                  go_wp2
                  go_meet
                  exact HI
                · have t1 : takeB es (k : Int) x2 = false := by
                    rw [take_nat es k hkl _ hx x2]
                    show (!true && !(true && decide (x2 ≤ xe))) = _
                    rfl
                  have B1 := hide (fun w' (h : OAt w' g (eobj es)) => take_any es g n k x2 x3 w' h hl (by omega) ⟨by omega, by omega⟩ ⟨by omega, by omega⟩)
                  rw [t1, takeE_no es _ _ _ t1] at B1
                  obtain ⟨c0, c1, c2, c3⟩ := ent_cells HH.out k hkl _ hx
                  simp only at c0 c1 c2 c3
                  clear t1
                  go_upto_region 18 with fail
                  go_quiet (fail)
                  replace HO := hide (HO.out.below (below_drewN (Below.refl _ _) nq))
                  replace HH := hide (HH.out.below (below_drewN (Below.refl _ _) nq))
                  replace HB := hide (below_drewN HB.out nq)
                  replace HV := hide (HV.out.below (below_drewN (Below.refl _ _) nq))
                  replace q2 : (wa.drewN nq).cell? ⟨va, 2, none⟩ = some (.int .i8 x2) := q2
                  replace q3 : (wa.drewN nq).cell? ⟨va, 3, none⟩ = some (.int .u64 x3) := q3
                  clear c0 c1 c2 c3 q0 q1
                  generalize wa.drewN nq = wb at HO HH HB HV q2 q3 ⊢
                  go_wp2_with fail
                  refine (B1.out _ HO.out).mono ?_
                  rintro e w5 ⟨rfl, ho, ha⟩
                  have HI : Hid (∃ es, OAt w5 g (eobj es) ∧ OAt w5 h (eobj es) ∧ es.length = n ∧ Below w.heap.size w w5) := hide ⟨es, ho, HH.out.apart ha (by omega), hl, turned HB.out ha HB.out.size HG.out⟩
                  clear ho ha B1 HO HH HB hx q2 q3
                  go_wp2
                  go_meet
                  exact HI
            · cases xb
              · have B1 := hide (fun w' (h : OAt w' g (eobj es)) => ban_any es g n k w' h hl (by omega) ⟨by omega, by omega⟩)
                rw [ct_nat es k hkl, hx, banE_nat es k hkl _ hx] at B1
                obtain ⟨e2, he2⟩ : ∃ y, Hid (es.set k ⟨xh, xe, xr, true⟩ = y) := ⟨_, rfl⟩
                have hl2 : e2.length = n := by rw [← he2.out, List.length_set]; exact hl
                have P := hide (fun w' (h1 : OAt w' h (eobj es)) => h1.putB k hkl _ hx)
                simp only [he2.out] at B1 P
                have HX := hide hx
                clear hx he2
                go_upto_region 14 with fail
                go_cut [65] from 49 to 65 (fun x wx => x = .bool false ∧ Hid (OAt wx g (eobj e2) ∧ OAt wx h (eobj es) ∧ Below w.heap.size w wx))
                case first =>
                  go_wp2_with fail
                  refine (B1.out _ HO.out).mono ?_
                  rintro e w5 ⟨rfl, ho, ha⟩
                  have hh := HH.out.apart ha (by omega)
                  have HR := hide (And.intro ho (And.intro hh (turned HB.out ha HB.out.size HG.out)))
                  clear ho ha B1 HO HH HB P
                  rcases Nat.eq_zero_or_pos k with hk0 | hk0
                  · subst hk0
                    obtain ⟨f0, f1, f2, f3⟩ := ent_cells0 hh (by omega) _ HX.out
                    simp only at f0 f1 f2 f3
                    go_wp2
                    all_goals go_meet
                    all_goals exact ⟨rfl, HR⟩
                  · obtain ⟨f0, f1, f2, f3⟩ := ent_cells hh k (by omega) _ HX.out
                    simp only at f0 f1 f2 f3
                    have hkn : k % n = k := Nat.mod_eq_of_lt hk
                    go_wp2
                    all_goals go_meet
                    all_goals exact ⟨rfl, HR⟩
                case rest =>
                  obtain ⟨rfl, hcc⟩ := hcut
                  obtain ⟨ho, hh, hbl⟩ := hcc.out
                  have HI : Hid (∃ es, OAt (wc.setCell ⟨h, k * 4 + 3, none⟩ (.bool true)) g (eobj es) ∧ OAt (wc.setCell ⟨h, k * 4 + 3, none⟩ (.bool true)) h (eobj es) ∧ es.length = n ∧ Below w.heap.size w (wc.setCell ⟨h, k * 4 + 3, none⟩ (.bool true))) := hide ⟨e2, ho.apart ((Apart.refl h wc).set (k * 4 + 3) (.bool true)) (by omega), P.out _ hh, hl2, hbl.trans (((Apart.refl h wc).set (k * 4 + 3) (.bool true)).old _ hbl.size (by have := HG.out; omega))⟩
                  have hz := hh.thaw
                  obtain ⟨c0, c1, c2, c3⟩ := ent_cells hh k hkl _ HX.out
                  simp only at c0 c1 c2 c3
                  clear ho hh hbl hcc B1 HO HH HB P
                  go_wp2
                  go_meet
                  exact HI
              · have B1 := hide (fun w' (h : OAt w' g (eobj es)) => ban_any es g n k w' h hl (by omega) ⟨by omega, by omega⟩)
                rw [ct_nat es k hkl, hx, banE_nat es k hkl _ hx] at B1
                obtain ⟨e2, he2⟩ : ∃ y, Hid (es.set k ⟨xh, xe, xr, true⟩ = y) := ⟨_, rfl⟩
                have hl2 : e2.length = n := by rw [← he2.out, List.length_set]; exact hl
                have P := hide (fun w' (h1 : OAt w' h (eobj es)) => h1.putB k hkl _ hx)
                simp only [he2.out] at B1 P
                have HX := hide hx
                clear hx he2
                go_upto_region 14 with fail
                go_cut [65] from 49 to 65 (fun x wx => x = .bool false ∧ Hid (OAt wx g (eobj e2) ∧ OAt wx h (eobj es) ∧ Below w.heap.size w wx))
                case first =>
                  go_wp2_with fail
                  refine (B1.out _ HO.out).mono ?_
                  rintro e w5 ⟨rfl, ho, ha⟩
                  have hh := HH.out.apart ha (by omega)
                  have HR := hide (And.intro ho (And.intro hh (turned HB.out ha HB.out.size HG.out)))
                  clear ho ha B1 HO HH HB P
                  rcases Nat.eq_zero_or_pos k with hk0 | hk0
                  · subst hk0
                    obtain ⟨f0, f1, f2, f3⟩ := ent_cells0 hh (by omega) _ HX.out
                    simp only at f0 f1 f2 f3
                    go_wp2
                    all_goals go_meet
                    all_goals exact ⟨rfl, HR⟩
                  · obtain ⟨f0, f1, f2, f3⟩ := ent_cells hh k (by omega) _ HX.out
                    simp only at f0 f1 f2 f3
                    have hkn : k % n = k := Nat.mod_eq_of_lt hk
                    go_wp2
                    all_goals go_meet
                    all_goals exact ⟨rfl, HR⟩
                case rest =>
                  obtain ⟨rfl, hcc⟩ := hcut
                  obtain ⟨ho, hh, hbl⟩ := hcc.out
                  have HI : Hid (∃ es, OAt (wc.setCell ⟨h, k * 4 + 3, none⟩ (.bool true)) g (eobj es) ∧ OAt (wc.setCell ⟨h, k * 4 + 3, none⟩ (.bool true)) h (eobj es) ∧ es.length = n ∧ Below w.heap.size w (wc.setCell ⟨h, k * 4 + 3, none⟩ (.bool true))) := hide ⟨e2, ho.apart ((Apart.refl h wc).set (k * 4 + 3) (.bool true)) (by omega), P.out _ hh, hl2, hbl.trans (((Apart.refl h wc).set (k * 4 + 3) (.bool true)).old _ hbl.size (by have := HG.out; omega))⟩
                  have hz := hh.thaw
                  obtain ⟨c0, c1, c2, c3⟩ := ent_cells hh k hkl _ HX.out
                  simp only at c0 c1 c2 c3
                  clear ho hh hbl hcc B1 HO HH HB P
                  go_wp2
                  go_meet
                  exact HI
          case rest =>
            have HI := hcut
            clear hx hl hkl HO HH HB
            obtain ⟨es, ho, hh, hl, hbl⟩ := HI.out
            have hkl : k < es.length := by omega
            have HHc := hide hh
            have G1 := hide (get_any es g n k wc ho hl (by omega) ⟨by omega, by omega⟩)
            clear ho hh hbl hcut q0 q1 q2 q3 HV
            obtain ⟨⟨xh, xe, xr, xb⟩, hx⟩ : ∃ x, entK es k = x := ⟨_, rfl⟩
            have HX := hide hx
            have hg := get_nat es k hkl _ hx
            clear hx
            cases xh <;> cases xb
            · rw [show getB' es (k : Int) = false from hg.1, show getR es (k : Int) = 0 from hg.2] at G1
              clear hg
              go_wp2_with fail
              refine G1.out.mono ?_
              rintro e w' ⟨rfl, hw⟩
              obtain rfl : _ = w' := hw.symm
              clear G1
              go_upto_region 24 with fail
              go_cut [170] from 125 to 170 (fun x wx => x = .bool false ∧ wx = wc)
              case first =>
                rcases Nat.eq_zero_or_pos k with hk0 | hk0
                · subst hk0
                  obtain ⟨f0, f1, f2, f3⟩ := ent_cells0 HHc.out (by omega) _ HX.out
                  simp only at f0 f1 f2 f3
                  go_wp2
                  all_goals go_meet
                  all_goals exact ⟨rfl, rfl⟩
                · obtain ⟨f0, f1, f2, f3⟩ := ent_cells HHc.out k (by omega) _ HX.out
                  simp only at f0 f1 f2 f3
                  have hkn : k % n = k := Nat.mod_eq_of_lt hk
                  go_wp2
                  all_goals go_meet
                  all_goals exact ⟨rfl, rfl⟩
              case rest =>
                obtain ⟨rfl, hwc⟩ := hcut
                obtain rfl : _ = wc := hwc.symm
                go_wp2
                go_roundw
                case rel => exact ⟨i + 1, by go_num, by omega, HI⟩
                case measure => simp [intOf]; omega
            · rw [show getB' es (k : Int) = false from hg.1, show getR es (k : Int) = 0 from hg.2] at G1
              clear hg
              go_wp2_with fail
              refine G1.out.mono ?_
              rintro e w' ⟨rfl, hw⟩
              obtain rfl : _ = w' := hw.symm
              clear G1
              go_upto_region 24 with fail
              go_cut [170] from 125 to 170 (fun x wx => x = .bool false ∧ wx = wc)
              case first =>
                rcases Nat.eq_zero_or_pos k with hk0 | hk0
                · subst hk0
                  obtain ⟨f0, f1, f2, f3⟩ := ent_cells0 HHc.out (by omega) _ HX.out
                  simp only at f0 f1 f2 f3
                  go_wp2
                  all_goals go_meet
                  all_goals exact ⟨rfl, rfl⟩
                · obtain ⟨f0, f1, f2, f3⟩ := ent_cells HHc.out k (by omega) _ HX.out
                  simp only at f0 f1 f2 f3
                  have hkn : k % n = k := Nat.mod_eq_of_lt hk
                  go_wp2
                  all_goals go_meet
                  all_goals exact ⟨rfl, rfl⟩
              case rest =>
                obtain ⟨rfl, hwc⟩ := hcut
                obtain rfl : _ = wc := hwc.symm
                go_wp2
                go_roundw
                case rel => exact ⟨i + 1, by go_num, by omega, HI⟩
                case measure => simp [intOf]; omega
            · rw [show getB' es (k : Int) = true from hg.1, show getR es (k : Int) = xr from hg.2] at G1
              clear hg
              go_wp2_with fail
              refine G1.out.mono ?_
              rintro e w' ⟨rfl, hw⟩
              obtain rfl : _ = w' := hw.symm
              clear G1
              go_upto_region 24 with fail
              go_cut [170] from 125 to 170 (fun x wx => x = .bool false ∧ wx = wc)
              case first =>
                rcases Nat.eq_zero_or_pos k with hk0 | hk0
                · subst hk0
                  obtain ⟨f0, f1, f2, f3⟩ := ent_cells0 HHc.out (by omega) _ HX.out
                  simp only at f0 f1 f2 f3
                  go_wp2
                  all_goals go_meet
                  all_goals exact ⟨rfl, rfl⟩
                · obtain ⟨f0, f1, f2, f3⟩ := ent_cells HHc.out k (by omega) _ HX.out
                  simp only at f0 f1 f2 f3
                  have hkn : k % n = k := Nat.mod_eq_of_lt hk
                  go_wp2
                  all_goals go_meet
                  all_goals exact ⟨rfl, rfl⟩
              case rest =>
                obtain ⟨rfl, hwc⟩ := hcut
                obtain rfl : _ = wc := hwc.symm
                go_wp2
                go_roundw
                case rel => exact ⟨i + 1, by go_num, by omega, HI⟩
                case measure => simp [intOf]; omega
            · rw [show getB' es (k : Int) = false from hg.1, show getR es (k : Int) = 0 from hg.2] at G1
              clear hg
              go_wp2_with fail
              refine G1.out.mono ?_
              rintro e w' ⟨rfl, hw⟩
              obtain rfl : _ = w' := hw.symm
              clear G1
              go_upto_region 24 with fail
              go_cut [170] from 125 to 170 (fun x wx => x = .bool false ∧ wx = wc)
              case first =>
                rcases Nat.eq_zero_or_pos k with hk0 | hk0
                · subst hk0
                  obtain ⟨f0, f1, f2, f3⟩ := ent_cells0 HHc.out (by omega) _ HX.out
                  simp only at f0 f1 f2 f3
                  go_wp2
                  all_goals go_meet
                  all_goals exact ⟨rfl, rfl⟩
                · obtain ⟨f0, f1, f2, f3⟩ := ent_cells HHc.out k (by omega) _ HX.out
                  simp only at f0 f1 f2 f3
                  have hkn : k % n = k := Nat.mod_eq_of_lt hk
                  go_wp2
                  all_goals go_meet
                  all_goals exact ⟨rfl, rfl⟩
              case rest =>
                obtain ⟨rfl, hwc⟩ := hcut
                obtain rfl : _ = wc := hwc.symm
                go_wp2
                go_roundw
                case rel => exact ⟨i + 1, by go_num, by omega, HI⟩
                case measure => simp [intOf]; omega
    · go_wp2_with fail
      go_loopw [174] (fun v wx => ∃ j : Nat, v = .int .i64 (j : Int) ∧ j ≤ n ∧ Hid (OAt wx g (eobj es) ∧ OAt wx h (eobj es) ∧ Below w.heap.size w wx)) (fun v _ => n - (intOf v).toNat)
      case atStart => exact ⟨0, rfl, Nat.zero_le _, hide ⟨HO.out, HH.out, HB.out⟩⟩
      case round =>
        obtain ⟨j, rfl, hj, hJ⟩ := hrel
        obtain ⟨ho, hh, hbl⟩ := hJ.out
        by_cases hjn : j < n
        · obtain ⟨⟨xh, xe, xr, xb⟩, hx⟩ : ∃ x, entK es j = x := ⟨_, rfl⟩
          obtain ⟨c0, c1, c2, c3⟩ := ent_cells ho j (by omega) _ hx
          obtain ⟨d0, d1, d2, d3⟩ := ent_cells hh j (by omega) _ hx
          simp only at c0 c1 c2 c3 d0 d1 d2 d3
          clear ho hh hbl HO HH HB hx
          go_upto_region 30 with fail
          go_quiet (fail)
          have HJ : Hid (OAt (wr.drewN nq) g (eobj es) ∧ OAt (wr.drewN nq) h (eobj es) ∧ Below w.heap.size w (wr.drewN nq)) := hide ⟨hJ.out.1.below (below_drewN (Below.refl _ _) nq), hJ.out.2.1.below (below_drewN (Below.refl _ _) nq), below_drewN hJ.out.2.2 nq⟩
          clear hJ
          go_wp2
          go_roundw
          case rel => exact ⟨j + 1, by go_num, by omega, HJ⟩
          case measure => simp [intOf]; omega
        · have HF := hide hbl
          clear ho hh hbl hJ
          go_wp2
          go_ret
          exact ⟨rfl, HF.out⟩

set_option maxRecDepth 100000 in
theorem lifted (os : Os) (started : os.Started) (H : Type) (enc : TypeId × Value → H) :
    ReturnsInHanded {} Try.checked os 6 .any (Rows.latestScriptSpec.pre6 enc Try.prog Try.f6 Rows.latestScriptRow.domain false) (Rows.latestScriptSpec.post enc Try.prog Try.f6 false true false false) := by
  refine returnsInHanded_of_change (C := Try.checked) own started (by kernel_rfl) Try.func6
    (ChangeSpec.witness6 (enc := enc) (C := Try.checked) false ⟨#[], #[.int .u8 0, .slice none 0 0], []⟩ 8 (by kernel_rfl) (by kernel_rfl) (by kernel_rfl) (by kernel_rfl)) ?_
  intro W base args ds gs before hval0 hW hcnd _
  have hval : ∀ (j : Nat) t v, Try.f6.params[j]? = some t → args[j]? = some v → Value.okWide Try.prog W .any base t v := hval0
  have hW' := hW
  obtain ⟨p, q, hA0, hV, rfl, hfz, hnd⟩ := hW
  have hA : DataW.TrodAll enc Try.prog W 0 (fun _ => true) true Try.f6.params.toList args.toList ds p := hA0
  rw [Try.params6] at hA hval
  obtain ⟨v0, vs0, d0, ds0, p0, q0, hargs, rfl, rfl, h0, r0⟩ := trodAll_cons hA
  obtain ⟨v1, vs1, d1, ds1, p1, q1, rfl, rfl, rfl, h1, r1⟩ := trodAll_cons r0
  obtain ⟨rfl, rfl, rfl⟩ := trodAll_nil r1
  obtain rfl : args = #[v0, v1] := by cases args; simp_all
  obtain ⟨rfl, rfl⟩ := trodVars_none hV
  obtain ⟨a0, rfl, rfl, rfl, w0⟩ := open_int Try.underlying5 (hval 0 5 v0 rfl rfl) h0
  obtain ⟨a1, len1, cap1, rfl⟩ := okWide_slice Try.underlying62 (hval 1 62 v1 rfl rfl)
  have k1 := h1
  have lt1 : ∀ x ∈ p1, x.block < W.heap.size := by obtain ⟨m, hm⟩ := k1; exact DataW.trod_lt m _ _ _ hm
  obtain ⟨fuel1, hf1⟩ := h1
  simp only [Value.cells] at hf1
  obtain ⟨e1, w1⟩ := (Sh.read _).1 _ _ _ _ has62 hf1
  clear hA0 hval0
  refine (walk a0 a1 len1 cap1 e1 W w0 w1).mono fun e W' ⟨he, bel⟩ => ?_
  subst he
  exact ⟨_, rfl, _, _, _, [], _, [], hW', trodAll_mk1 (shut_bool Try.underlying4 _), (trodAll_cons_mk (shut_int Try.underlying5 w0) (trodAll_cons_mk (Below.trod laidOut (by kernel_rfl) (of_decide_eq_true (by kernel_rfl)) k1 bel lt1) trodAll_mk0)), rfl, bel.frame _, fun h => by cases h⟩

theorem over : Rows.latestScriptRow.holds Try.pinned (OpenSpec.ofChange Rows.latestScriptSpec) :=
  OpenClaim.holds_of_wide 6 Try.f6 rfl rfl rfl rfl rfl rfl rfl ⟨rfl, rfl, rfl, rfl, rfl⟩ rfl rfl rfl rfl rfl (by kernel_rfl) Try.func6 (by kernel_rfl)
    (of_decide_eq_true (by kernel_rfl)) (by unfold Func.isWrapper; first | (rw [if_pos (by decide +kernel)]; kernel_rfl) | (rw [if_neg (by decide +kernel)]; exact ⟨rfl, rfl⟩))
    (fun os started H enc _ => lifted os started H enc)

theorem proved : Rows.LatestScriptSaid := over
end Go.Proofs.Ytedpieepfbcboaa.latestScript

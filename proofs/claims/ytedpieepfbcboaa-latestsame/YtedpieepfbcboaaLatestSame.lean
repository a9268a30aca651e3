/-
  a vote that is not later than the last one changes nothing (LatestSame is true of every input).
-/
import Derived.Test.YtedpieepfbcboaaRows

import Derived.WalkKit

import Derived.Below

import Derived.ProofKit

import Derived.OpenShut

import Derived.ShutString

import Derived.ChangeOld

import Derived.Test.YtedpieepfbcboaaEntMath

namespace Go.Proofs.Ytedpieepfbcboaa.latestSame

open Go.ChangeShapes Go.WideShapes Go.ChangeAt Go.RowKit

set_option linter.unusedVariables false

theorem own : ownKnob Try.prog.godebug = none := by kernel_rfl
theorem laidOut : laidOutB Try.prog = true := by kernel_rfl
theorem cells4 : Try.prog.cellsOf 4 = 1 := by kernel_rfl
theorem cells22 : Try.prog.cellsOf 22 = 1 := by kernel_rfl
theorem cells32 : Try.prog.cellsOf 32 = 1 := by kernel_rfl
theorem cells66 : Try.prog.cellsOf 66 = 1 := by kernel_rfl
theorem cells80 : Try.prog.cellsOf 80 = 1 := by kernel_rfl

set_option maxRecDepth 100000 in
set_option maxHeartbeats 8000000 in
theorem walk (a0 : Option Addr) (len0 cap0 : Nat) (z0 : List Int) (a1 : Option Addr) (len1 cap1 : Nat) (z1 : List Int) (w : World) (w0 : IsRow .i8 w a0 len0 cap0 z0) (w1 : IsRow .u64 w a1 len1 cap1 z1) :
    Calls Try.prog 10 #[.slice a0 len0 cap0, .slice a1 len1 cap1] w fun e w' => e = .returned (.bool true) ∧ Below w.heap.size w w' := by
  have hE := w0.row
  have he := w0.wf
  have hR := w1.row
  clear w0 w1
  generalize z0.take len0 = es at *
  generalize z1.take len1 = rs at *
  have HE := hide hE
  have HR := hide hR
  have he8 : Hid (∀ z ∈ es, -128 ≤ z ∧ z ≤ 127) := hide fun z hz => wf_i8e (he z hz)
  have hel := hE.len
  have hec := hE.cap
  unfold maxLen at hec
  clear hE he hR
  go_enter Try.func10, Try.ntmps10
  go_wp2_with fail
  refine (awake_any _).mono ?_
  rintro e w1 ⟨rfl, hb1⟩
  have HB1 := hide hb1
  clear hb1
  go_wp2_with fail
  refine (of_ent 2 w1 ⟨by omega, by omega⟩).mono ?_
  rintro e w2 ⟨g, rfl, ho, hg, hb⟩
  rw [show sizeE 2 = 2 from rfl] at ho ⊢
  have HB := hide (HB1.out.trans (hb.mono HB1.out.size))
  have HG := hide (Nat.le_trans HB1.out.size hg)
  have HO := hide ho
  clear ho hb hg HB1
  go_wp2_with fail
  go_loopw [18] (fun v wr => ∃ i : Nat, v = .int .i64 (i : Int) ∧ i ≤ len0 ∧ Hid (∃ x : Ent, OAt wr g (eobj [Ent.zero, x]) ∧ x.b = false ∧ Below w.heap.size w wr)) (fun v _ => len0 - (intOf v).toNat)
  case atStart => exact ⟨0, rfl, Nat.zero_le _, hide ⟨Ent.zero, HO.out, rfl, HB.out⟩⟩
  case round =>
    obtain ⟨i, rfl, hi, hI⟩ := hrel
    obtain ⟨⟨xh, xe, xr, xb⟩, ho, hb, hbl⟩ := hI.out
    simp only at hb
    subst hb
    clear hI HO HB
    have HO := hide ho
    have HB := hide hbl
    clear ho hbl
    by_cases hlt : i < len0
    · obtain ⟨b0, o0, rfl, hb0, hc0⟩ := (HE.out.below HB.out).cell i hlt
      obtain ⟨E, hEe⟩ : ∃ y, Hid (es.getD i 0 = y) := ⟨_, rfl⟩
      have hE8 : -128 ≤ E ∧ E ≤ 127 := by
        rw [← hEe.out, List.getD_eq_getElem?_getD, List.getElem?_eq_getElem (by omega)]
        exact he8.out _ (List.getElem_mem _)
      rw [hEe.out] at hc0
      by_cases hlr : i < len1
      · obtain ⟨b1, o1, rfl, hb1, hc1⟩ := (HR.out.below HB.out).cell i hlr
        obtain ⟨Y, hYe⟩ : ∃ y, Hid (rs.getD i 0 = y) := ⟨_, rfl⟩
        rw [hYe.out] at hc1
        have hwe : IntKind.i64.wrap E = E := by rw [IntKind.wrap_i64]; omega
        have c0 := HO.out.cell 4
        have c1 := HO.out.cell 5
        have c2 := HO.out.cell 6
        have c3 := HO.out.cell 7
        simp only [entC, Ent.zero, List.cons_append, List.nil_append, List.append_nil, List.getElem?_toArray, List.getElem?_cons_zero, List.getElem?_cons_succ] at c0 c1 c2 c3
        cases xh
        · have t1 : takeB [Ent.zero, ⟨false, xe, xr, false⟩] 1 E = true := by
            have h := take_nat [Ent.zero, ⟨false, xe, xr, false⟩] 1 (by simp) _ rfl E
            rw [show ((1 : Nat) : Int) = 1 from rfl] at h
            rw [h]
            show (!false && !(false && decide (E ≤ xe))) = _
            rfl
          have e1 : takeE [Ent.zero, ⟨false, xe, xr, false⟩] 1 E Y = [Ent.zero, ⟨true, E, Y, false⟩] := takeE_nat [Ent.zero, ⟨false, xe, xr, false⟩] 1 (by simp) E Y t1
          have T1 := hide (fun w' (h : OAt w' g (eobj [Ent.zero, ⟨false, xe, xr, false⟩])) => take_any [Ent.zero, ⟨false, xe, xr, false⟩] g 2 1 E Y w' h rfl (by omega) ⟨by omega, by omega⟩ ⟨by omega, by omega⟩)
          rw [t1, e1] at T1
          clear t1 e1
          have HW := hide (OAt.new wr (.cells #[.bool false, .int .i64 xe, .int .u64 xr, .bool false] 71))
          have HO2 := hide (HO.out.alloc (.cells #[.bool false, .int .i64 xe, .int .u64 xr, .bool false] 71))
          have HB2 := hide (HB.out.alloc HB.out.size (.cells #[.bool false, .int .i64 xe, .int .u64 xr, .bool false] 71))
          have hc3 : (wr.alloc (.cells #[.bool false, .int .i64 xe, .int .u64 xr, .bool false] 71)).cell? ⟨b1, o1 + i, none⟩ = some (.int .u64 Y) := by rw [World.cell?_alloc_lt _ _ _ hb1]; exact hc1
          have hgl : g < wr.heap.size := HO.out.lt
          go_upto_region 11 with fail
          generalize hW4 : wr.alloc (.cells #[.bool false, .int .i64 xe, .int .u64 xr, .bool false] 71) = w4 at HW HO2 HB2 hc3 ⊢
          obtain ⟨v, hv⟩ : ∃ x, Hid (wr.heap.size = x) := ⟨_, rfl⟩
          rw [hv.out] at HW hgl ⊢
          clear hW4 hv c0 c1 c2 c3 hc0 hc1 HO HB
          go_wp2_with fail
          refine (T1.out _ HO2.out).mono ?_
          rintro e w5 ⟨rfl, ho, ha⟩
          have HB5 := hide (turned HB2.out ha HB2.out.size HG.out)
          have HW5 := HW.out.apart ha (by omega)
          have HI : Hid (∃ x : Ent, OAt w5 g (eobj [Ent.zero, x]) ∧ x.b = false ∧ Below w.heap.size w w5) := hide ⟨_, ho, rfl, HB5.out⟩
          have z0 := ho.cell 0
          have z1 := ho.cell 1
          have z2 := ho.cell 2
          have z3 := ho.cell 3
          have y4 := ho.cell 4
          have y5 := ho.cell 5
          have y6 := ho.cell 6
          have y7 := ho.cell 7
          have v0 := HW5.cell 0
          have v1 := HW5.cell 1
          have v2 := HW5.cell 2
          have v3 := HW5.cell 3
          simp only [entC, Ent.zero, List.cons_append, List.nil_append, List.append_nil, List.getElem?_toArray, List.getElem?_cons_zero, List.getElem?_cons_succ] at z0 z1 z2 z3 y4 y5 y6 y7 v0 v1 v2 v3
          clear ho ha T1 HB2 HO2 HW HW5 hc3 HB5
          go_upto_region 12 with fail
          go_quiet (fail)
          have HI2 : Hid (∃ x : Ent, OAt (w5.drewN nq) g (eobj [Ent.zero, x]) ∧ x.b = false ∧ Below w.heap.size w (w5.drewN nq)) := by
            obtain ⟨x, h1, h2, h3⟩ := HI.out
            exact hide ⟨x, h1.below (below_drewN (Below.refl _ _) nq), h2, below_drewN h3 nq⟩
          generalize w5.drewN nq = w6 at HI2 ⊢
          clear HI z0 z1 z2 z3 y4 y5 y6 y7 v0 v1 v2 v3
          go_wp2
          go_roundw
          case rel => exact ⟨i + 1, by go_num, by omega, HI2⟩
          case measure => simp [intOf]; omega
        · by_cases hm : E ≤ xe
          · have t1 : takeB [Ent.zero, ⟨true, xe, xr, false⟩] 1 E = false := by
              have h := take_nat [Ent.zero, ⟨true, xe, xr, false⟩] 1 (by simp) _ rfl E
              rw [show ((1 : Nat) : Int) = 1 from rfl] at h
              rw [h]
              show (!false && !(true && decide (E ≤ xe))) = _
              rw [decide_eq_true (by omega)]; rfl
            have e1 : takeE [Ent.zero, ⟨true, xe, xr, false⟩] 1 E Y = [Ent.zero, ⟨true, xe, xr, false⟩] := takeE_no _ 1 E Y t1
            have T1 := hide (fun w' (h : OAt w' g (eobj [Ent.zero, ⟨true, xe, xr, false⟩])) => take_any [Ent.zero, ⟨true, xe, xr, false⟩] g 2 1 E Y w' h rfl (by omega) ⟨by omega, by omega⟩ ⟨by omega, by omega⟩)
            rw [t1, e1] at T1
            clear t1 e1
            have HW := hide (OAt.new wr (.cells #[.bool true, .int .i64 xe, .int .u64 xr, .bool false] 71))
            have HO2 := hide (HO.out.alloc (.cells #[.bool true, .int .i64 xe, .int .u64 xr, .bool false] 71))
            have HB2 := hide (HB.out.alloc HB.out.size (.cells #[.bool true, .int .i64 xe, .int .u64 xr, .bool false] 71))
            have hc3 : (wr.alloc (.cells #[.bool true, .int .i64 xe, .int .u64 xr, .bool false] 71)).cell? ⟨b1, o1 + i, none⟩ = some (.int .u64 Y) := by rw [World.cell?_alloc_lt _ _ _ hb1]; exact hc1
            have hgl : g < wr.heap.size := HO.out.lt
            go_upto_region 11 with fail
            generalize hW4 : wr.alloc (.cells #[.bool true, .int .i64 xe, .int .u64 xr, .bool false] 71) = w4 at HW HO2 HB2 hc3 ⊢
            obtain ⟨v, hv⟩ : ∃ x, Hid (wr.heap.size = x) := ⟨_, rfl⟩
            rw [hv.out] at HW hgl ⊢
            clear hW4 hv c0 c1 c2 c3 hc0 hc1 HO HB
            go_wp2_with fail
            refine (T1.out _ HO2.out).mono ?_
            rintro e w5 ⟨rfl, ho, ha⟩
            have HB5 := hide (turned HB2.out ha HB2.out.size HG.out)
            have HW5 := HW.out.apart ha (by omega)
            have HI : Hid (∃ x : Ent, OAt w5 g (eobj [Ent.zero, x]) ∧ x.b = false ∧ Below w.heap.size w w5) := hide ⟨_, ho, rfl, HB5.out⟩
            have z0 := ho.cell 0
            have z1 := ho.cell 1
            have z2 := ho.cell 2
            have z3 := ho.cell 3
            have y4 := ho.cell 4
            have y5 := ho.cell 5
            have y6 := ho.cell 6
            have y7 := ho.cell 7
            have v0 := HW5.cell 0
            have v1 := HW5.cell 1
            have v2 := HW5.cell 2
            have v3 := HW5.cell 3
            simp only [entC, Ent.zero, List.cons_append, List.nil_append, List.append_nil, List.getElem?_toArray, List.getElem?_cons_zero, List.getElem?_cons_succ] at z0 z1 z2 z3 y4 y5 y6 y7 v0 v1 v2 v3
            clear ho ha T1 HB2 HO2 HW HW5 hc3 HB5
            go_upto_region 12 with fail
            have hd : decide (E ≤ xe) = true := decide_eq_true (by omega)
            go_quiet (fail)
            have HI2 : Hid (∃ x : Ent, OAt (w5.drewN nq) g (eobj [Ent.zero, x]) ∧ x.b = false ∧ Below w.heap.size w (w5.drewN nq)) := by
              obtain ⟨x, h1, h2, h3⟩ := HI.out
              exact hide ⟨x, h1.below (below_drewN (Below.refl _ _) nq), h2, below_drewN h3 nq⟩
            generalize w5.drewN nq = w6 at HI2 ⊢
            clear HI z0 z1 z2 z3 y4 y5 y6 y7 v0 v1 v2 v3
            go_wp2
            go_roundw
            case rel => exact ⟨i + 1, by go_num, by omega, HI2⟩
            case measure => simp [intOf]; omega
          · have t1 : takeB [Ent.zero, ⟨true, xe, xr, false⟩] 1 E = true := by
              have h := take_nat [Ent.zero, ⟨true, xe, xr, false⟩] 1 (by simp) _ rfl E
              rw [show ((1 : Nat) : Int) = 1 from rfl] at h
              rw [h]
              show (!false && !(true && decide (E ≤ xe))) = _
              rw [decide_eq_false (by omega)]; rfl
            have e1 : takeE [Ent.zero, ⟨true, xe, xr, false⟩] 1 E Y = [Ent.zero, ⟨true, E, Y, false⟩] := takeE_nat [Ent.zero, ⟨true, xe, xr, false⟩] 1 (by simp) E Y t1
            have T1 := hide (fun w' (h : OAt w' g (eobj [Ent.zero, ⟨true, xe, xr, false⟩])) => take_any [Ent.zero, ⟨true, xe, xr, false⟩] g 2 1 E Y w' h rfl (by omega) ⟨by omega, by omega⟩ ⟨by omega, by omega⟩)
            rw [t1, e1] at T1
            clear t1 e1
            have HW := hide (OAt.new wr (.cells #[.bool true, .int .i64 xe, .int .u64 xr, .bool false] 71))
            have HO2 := hide (HO.out.alloc (.cells #[.bool true, .int .i64 xe, .int .u64 xr, .bool false] 71))
            have HB2 := hide (HB.out.alloc HB.out.size (.cells #[.bool true, .int .i64 xe, .int .u64 xr, .bool false] 71))
            have hc3 : (wr.alloc (.cells #[.bool true, .int .i64 xe, .int .u64 xr, .bool false] 71)).cell? ⟨b1, o1 + i, none⟩ = some (.int .u64 Y) := by rw [World.cell?_alloc_lt _ _ _ hb1]; exact hc1
            have hgl : g < wr.heap.size := HO.out.lt
            go_upto_region 11 with fail
            generalize hW4 : wr.alloc (.cells #[.bool true, .int .i64 xe, .int .u64 xr, .bool false] 71) = w4 at HW HO2 HB2 hc3 ⊢
            obtain ⟨v, hv⟩ : ∃ x, Hid (wr.heap.size = x) := ⟨_, rfl⟩
            rw [hv.out] at HW hgl ⊢
            clear hW4 hv c0 c1 c2 c3 hc0 hc1 HO HB
            go_wp2_with fail
            refine (T1.out _ HO2.out).mono ?_
            rintro e w5 ⟨rfl, ho, ha⟩
            have HB5 := hide (turned HB2.out ha HB2.out.size HG.out)
            have HW5 := HW.out.apart ha (by omega)
            have HI : Hid (∃ x : Ent, OAt w5 g (eobj [Ent.zero, x]) ∧ x.b = false ∧ Below w.heap.size w w5) := hide ⟨_, ho, rfl, HB5.out⟩
            have z0 := ho.cell 0
            have z1 := ho.cell 1
            have z2 := ho.cell 2
            have z3 := ho.cell 3
            have y4 := ho.cell 4
            have y5 := ho.cell 5
            have y6 := ho.cell 6
            have y7 := ho.cell 7
            have v0 := HW5.cell 0
            have v1 := HW5.cell 1
            have v2 := HW5.cell 2
            have v3 := HW5.cell 3
            simp only [entC, Ent.zero, List.cons_append, List.nil_append, List.append_nil, List.getElem?_toArray, List.getElem?_cons_zero, List.getElem?_cons_succ] at z0 z1 z2 z3 y4 y5 y6 y7 v0 v1 v2 v3
            clear ho ha T1 HB2 HO2 HW HW5 hc3 HB5
            go_upto_region 12 with fail
            have hd : decide (E ≤ xe) = false := decide_eq_false (by omega)
            go_quiet (fail)
            have HI2 : Hid (∃ x : Ent, OAt (w5.drewN nq) g (eobj [Ent.zero, x]) ∧ x.b = false ∧ Below w.heap.size w (w5.drewN nq)) := by
              obtain ⟨x, h1, h2, h3⟩ := HI.out
              exact hide ⟨x, h1.below (below_drewN (Below.refl _ _) nq), h2, below_drewN h3 nq⟩
            generalize w5.drewN nq = w6 at HI2 ⊢
            clear HI z0 z1 z2 z3 y4 y5 y6 y7 v0 v1 v2 v3
            go_wp2
            go_roundw
            case rel => exact ⟨i + 1, by go_num, by omega, HI2⟩
            case measure => simp [intOf]; omega
      · go_wp2
        go_ret
        exact ⟨rfl, HB.out⟩
    · go_wp2
      go_ret
      exact ⟨rfl, HB.out⟩

set_option maxRecDepth 100000 in
theorem lifted (os : Os) (started : os.Started) (H : Type) (enc : TypeId × Value → H) :
    ReturnsInHanded {} Try.checked os 10 .any (Rows.latestSameSpec.pre6 enc Try.prog Try.f10 Rows.latestSameRow.domain false) (Rows.latestSameSpec.post enc Try.prog Try.f10 false true false false) := by
  refine returnsInHanded_of_change (C := Try.checked) own started (by kernel_rfl) Try.func10
    (ChangeSpec.witness6 (enc := enc) (C := Try.checked) false ⟨#[], #[.slice none 0 0, .slice none 0 0], []⟩ 8 (by kernel_rfl) (by kernel_rfl) (by kernel_rfl) (by kernel_rfl)) ?_
  intro W base args ds gs before hval0 hW hcnd _
  have hval : ∀ (j : Nat) t v, Try.f10.params[j]? = some t → args[j]? = some v → Value.okWide Try.prog W .any base t v := hval0
  have hW' := hW
  obtain ⟨p, q, hA0, hV, rfl, hfz, hnd⟩ := hW
  have hA : DataW.TrodAll enc Try.prog W 0 (fun _ => true) true Try.f10.params.toList args.toList ds p := hA0
  rw [Try.params10] at hA hval
  obtain ⟨v0, vs0, d0, ds0, p0, q0, hargs, rfl, rfl, h0, r0⟩ := trodAll_cons hA
  obtain ⟨v1, vs1, d1, ds1, p1, q1, rfl, rfl, rfl, h1, r1⟩ := trodAll_cons r0
  obtain ⟨rfl, rfl, rfl⟩ := trodAll_nil r1
  obtain rfl : args = #[v0, v1] := by cases args; simp_all
  obtain ⟨rfl, rfl⟩ := trodVars_none hV
  obtain ⟨a0, len0, cap0, rfl⟩ := okWide_slice Try.underlying80 (hval 0 80 v0 rfl rfl)
  have k0 := h0
  have lt0 : ∀ x ∈ p0, x.block < W.heap.size := by obtain ⟨m, hm⟩ := k0; exact DataW.trod_lt m _ _ _ hm
  obtain ⟨z0, w0⟩ : ∃ zs, IsRow .i8 W a0 len0 cap0 zs := by
    obtain ⟨fuel, hf⟩ := h0
    rcases open_ints Try.underlying80 Try.underlying66 (by kernel_rfl) hf with ⟨hcs, _⟩ | ⟨x, l, c, zs, hcs, _, hl, hm, hz, _, hcell, hwz⟩
    · simp [Value.cells] at hcs
      obtain ⟨rfl, rfl, rfl⟩ := hcs
      exact ⟨[], .inl ⟨rfl, rfl, rfl, rfl⟩⟩
    · simp [Value.cells] at hcs
      obtain ⟨rfl, rfl, rfl⟩ := hcs
      exact ⟨zs, .inr ⟨_, rfl, hl, hm, by simpa using hz, hcell, hwz⟩⟩
  obtain ⟨a1, len1, cap1, rfl⟩ := okWide_slice Try.underlying22 (hval 1 22 v1 rfl rfl)
  have k1 := h1
  have lt1 : ∀ x ∈ p1, x.block < W.heap.size := by obtain ⟨m, hm⟩ := k1; exact DataW.trod_lt m _ _ _ hm
  obtain ⟨z1, w1⟩ : ∃ zs, IsRow .u64 W a1 len1 cap1 zs := by
    obtain ⟨fuel, hf⟩ := h1
    rcases open_ints Try.underlying22 Try.underlying32 (by kernel_rfl) hf with ⟨hcs, _⟩ | ⟨x, l, c, zs, hcs, _, hl, hm, hz, _, hcell, hwz⟩
    · simp [Value.cells] at hcs
      obtain ⟨rfl, rfl, rfl⟩ := hcs
      exact ⟨[], .inl ⟨rfl, rfl, rfl, rfl⟩⟩
    · simp [Value.cells] at hcs
      obtain ⟨rfl, rfl, rfl⟩ := hcs
      exact ⟨zs, .inr ⟨_, rfl, hl, hm, by simpa using hz, hcell, hwz⟩⟩
  clear hA0 hval0
  refine (walk a0 len0 cap0 z0 a1 len1 cap1 z1 W w0 w1).mono fun e W' ⟨he, bel⟩ => ?_
  subst he
  exact ⟨_, rfl, _, _, _, [], _, [], hW', trodAll_mk1 (shut_bool Try.underlying4 _), (trodAll_cons_mk (Below.trod laidOut (by kernel_rfl) (of_decide_eq_true (by kernel_rfl)) k0 bel lt0) (trodAll_cons_mk (Below.trod laidOut (by kernel_rfl) (of_decide_eq_true (by kernel_rfl)) k1 bel lt1) trodAll_mk0)), rfl, bel.frame _, fun h => by cases h⟩

theorem over : Rows.latestSameRow.holds Try.pinned (OpenSpec.ofChange Rows.latestSameSpec) :=
  OpenClaim.holds_of_wide 10 Try.f10 rfl rfl rfl rfl rfl rfl rfl ⟨rfl, rfl, rfl, rfl, rfl⟩ rfl rfl rfl rfl rfl (by kernel_rfl) Try.func10 (by kernel_rfl)
    (of_decide_eq_true (by kernel_rfl)) (by unfold Func.isWrapper; first | (rw [if_pos (by decide +kernel)]; kernel_rfl) | (rw [if_neg (by decide +kernel)]; exact ⟨rfl, rfl⟩))
    (fun os started H enc _ => lifted os started H enc)

theorem proved : Rows.LatestSameSaid := over
end Go.Proofs.Ytedpieepfbcboaa.latestSame

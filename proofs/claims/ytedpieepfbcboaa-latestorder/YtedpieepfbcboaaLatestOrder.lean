/-
  in whatever order votes of unlike epochs come, the latest one is left (LatestOrder is true of every input).
-/
import Derived.Test.YtedpieepfbcboaaRows

import Derived.WalkKit

import Derived.Below

import Derived.ProofKit

import Derived.OpenShut

import Derived.ShutString

import Derived.ChangeOld

import Derived.Test.YtedpieepfbcboaaEntMath

namespace Go.Proofs.Ytedpieepfbcboaa.latestOrder

open Go.ChangeShapes Go.WideShapes Go.ChangeAt Go.RowKit

set_option linter.unusedVariables false

theorem own : ownKnob Try.prog.godebug = none := by kernel_rfl
theorem laidOut : laidOutB Try.prog = true := by kernel_rfl
theorem cells4 : Try.prog.cellsOf 4 = 1 := by kernel_rfl
theorem cells5 : Try.prog.cellsOf 5 = 1 := by kernel_rfl
theorem cells22 : Try.prog.cellsOf 22 = 1 := by kernel_rfl
theorem cells32 : Try.prog.cellsOf 32 = 1 := by kernel_rfl
theorem cells76 : Try.prog.cellsOf 76 = 1 := by kernel_rfl

set_option maxRecDepth 100000 in
set_option maxHeartbeats 4000000 in
theorem walk (a0 : Option Addr) (len0 cap0 : Nat) (z0 : List Int) (a1 : Option Addr) (len1 cap1 : Nat) (z1 : List Int) (w : World) (w0 : IsRow .u8 w a0 len0 cap0 z0) (w1 : IsRow .u64 w a1 len1 cap1 z1) :
    Calls Try.prog 7 #[.slice a0 len0 cap0, .slice a1 len1 cap1] w fun e w' => e = .returned (.bool true) ∧ Below w.heap.size w w' := by
  have hE := w0.row
  have he := w0.wf
  have hR := w1.row
  clear w0 w1
  generalize z0.take len0 = es at *
  generalize z1.take len1 = rs at *
  have HE := hide hE
  have HR := hide hR
  have he8 : Hid (∀ z ∈ es, 0 ≤ z ∧ z ≤ 255) := hide fun z hz => wf_u8e (he z hz)
  have hel := hE.len
  have hec := hE.cap
  unfold maxLen at hec
  clear hE he hR
  go_enter Try.func7, Try.ntmps7
  go_wp2_with fail
  refine (awake_any _).mono ?_
  rintro e w1 ⟨rfl, hb1⟩
  have HB1 := hide hb1
  clear hb1
  go_wp2_with fail
  refine (of_ent 1 w1 ⟨by omega, by omega⟩).mono ?_
  rintro e w2 ⟨g, rfl, ho, hg, hb⟩
  rw [show sizeE 1 = 1 from rfl] at ho ⊢
  have HB := hide (HB1.out.trans (hb.mono HB1.out.size))
  have HG := hide (Nat.le_trans HB1.out.size hg)
  have HO := hide ho
  clear ho hb hg HB1
  go_wp2_with fail
  go_loopw [6, 7, 17] (fun vm vr v wr => ∃ (i : Nat) (m r : Int), v = .int .i64 (i : Int) ∧ vm = .int .i64 m ∧ vr = .int .u64 r ∧ i ≤ len0 ∧ Hid (∃ x : Ent, OAt wr g (eobj [x]) ∧ x.b = false ∧ ((x.h = false ∧ m = -1 ∧ r = 0) ∨ (x.h = true ∧ x.e = m ∧ 0 ≤ m ∧ m ≤ 255 ∧ r = x.r)) ∧ Below w.heap.size w wr)) (fun _ _ v _ => len0 - (intOf v).toNat)
  case atStart => exact ⟨0, -1, 0, rfl, rfl, rfl, Nat.zero_le _, hide ⟨Ent.zero, HO.out, rfl, .inl ⟨rfl, rfl, rfl⟩, HB.out⟩⟩
  case round =>
    obtain ⟨i, m, r, rfl, rfl, rfl, hi, hI⟩ := hrel
    obtain ⟨x, ho, hb, hc, hbl⟩ := hI.out
    clear hI HO HB
    have HO := hide ho
    have HB := hide hbl
    clear ho hbl
    by_cases hlt : i < len0
    · obtain ⟨b0, o0, rfl, hb0, hc0⟩ := (HE.out.below HB.out).cell i hlt
      obtain ⟨E, hEe⟩ : ∃ y, Hid (es.getD i 0 = y) := ⟨_, rfl⟩
      have hE8 : 0 ≤ E ∧ E ≤ 255 := by
        rw [← hEe.out, List.getD_eq_getElem?_getD, List.getElem?_eq_getElem (by omega)]
        exact he8.out _ (List.getElem_mem _)
      rw [hEe.out] at hc0
      by_cases hlr : i < len1
      · obtain ⟨b1, o1, rfl, hb1, hc1⟩ := (HR.out.below HB.out).cell i hlr
        obtain ⟨Y, hYe⟩ : ∃ y, Hid (rs.getD i 0 = y) := ⟨_, rfl⟩
        rw [hYe.out] at hc1
        have hwe : IntKind.i64.wrap E = E := by rw [IntKind.wrap_i64]; omega
        by_cases hm : m < E
        · have t1 : takeB [x] 0 E = true := by
            have h := take_nat [x] 0 (by simp) x rfl E
            rw [show ((0 : Nat) : Int) = 0 from rfl] at h
            rw [h, hb]
            rcases hc with ⟨hh, _⟩ | ⟨hh, h2, _⟩
            · rw [hh]; rfl
            · rw [h2, decide_eq_false (by omega), Bool.and_false]; rfl
          have e1 : takeE [x] 0 E Y = [⟨true, E, Y, false⟩] := takeE_nat [x] 0 (by simp) E Y t1
          have T1 := hide (fun w' (h : OAt w' g (eobj [x])) => take_any [x] g 1 0 E Y w' h rfl (by omega) ⟨by omega, by omega⟩ ⟨by omega, by omega⟩)
          rw [t1, e1] at T1
          clear t1 e1 hc hb
          go_upto_region 10 with fail
          go_quiet (fail)
          have HO2 := hide (HO.out.below (below_drewN (Below.refl _ _) nq))
          have HB2 := hide (below_drewN HB.out nq)
          have hc3 : (wr.drewN nq).cell? ⟨b1, o1 + i, none⟩ = some (.int .u64 Y) := hc1
          generalize wr.drewN nq = w3 at *
          go_wp2_with fail
          refine (T1.out _ HO2.out).mono ?_
          rintro e w4 ⟨rfl, ho, ha⟩
          have HI : Hid (∃ x : Ent, OAt w4 g (eobj [x]) ∧ x.b = false ∧ ((x.h = false ∧ E = -1 ∧ Y = 0) ∨ (x.h = true ∧ x.e = E ∧ 0 ≤ E ∧ E ≤ 255 ∧ Y = x.r)) ∧ Below w.heap.size w w4) := hide ⟨_, ho, rfl, .inr ⟨rfl, rfl, hE8.1, hE8.2, rfl⟩, turned HB2.out ha HB2.out.size HG.out⟩
          clear ho ha T1 HO HO2 HB HB2
          go_wp2
          go_roundw
          case rel => exact ⟨i + 1, E, Y, by go_num, rfl, rfl, by omega, HI⟩
          case measure => simp [intOf]; omega
        · have hc2 : x.h = true ∧ x.e = m ∧ 0 ≤ m ∧ m ≤ 255 ∧ r = x.r := by
            rcases hc with ⟨_, h, _⟩ | h
            · omega
            · exact h
          have t1 : takeB [x] 0 E = false := by
            have h := take_nat [x] 0 (by simp) x rfl E
            rw [show ((0 : Nat) : Int) = 0 from rfl] at h
            rw [h, hb, hc2.1, hc2.2.1, decide_eq_true (by omega)]
            rfl
          have T1 := hide (take_any [x] g 1 0 E Y wr HO.out rfl (by omega) ⟨by omega, by omega⟩ ⟨by omega, by omega⟩)
          rw [t1, takeE_no [x] 0 E Y t1] at T1
          have HX : Hid (x.b = false ∧ ((x.h = false ∧ m = -1 ∧ r = 0) ∨ (x.h = true ∧ x.e = m ∧ 0 ≤ m ∧ m ≤ 255 ∧ r = x.r))) := hide ⟨hb, hc⟩
          clear t1 hc hb hc2
          go_wp2_with fail
          refine T1.out.mono ?_
          rintro e w4 ⟨rfl, ho, ha⟩
          have HI : Hid (∃ x : Ent, OAt w4 g (eobj [x]) ∧ x.b = false ∧ ((x.h = false ∧ m = -1 ∧ r = 0) ∨ (x.h = true ∧ x.e = m ∧ 0 ≤ m ∧ m ≤ 255 ∧ r = x.r)) ∧ Below w.heap.size w w4) := hide ⟨_, ho, HX.out.1, HX.out.2, turned HB.out ha HB.out.size HG.out⟩
          clear ho ha T1 HO HB HX
          go_wp2
          go_roundw
          case rel => exact ⟨i + 1, m, r, by go_num, rfl, rfl, by omega, HI⟩
          case measure => simp [intOf]; omega
      · have G1 := hide (get_any [x] g 1 0 wr HO.out rfl (by omega) ⟨by omega, by omega⟩)
        have hgt := get_nat [x] 0 (by simp) x rfl
        rw [show ((0 : Nat) : Int) = 0 from rfl] at hgt
        rcases hc with ⟨hh, rfl, rfl⟩ | ⟨hh, hm0, hm1, hm2, rfl⟩
        · rw [hgt.1, hgt.2, hb, hh] at G1
          simp only [Bool.not_false, Bool.and_false, true_and, Bool.false_eq_true, reduceIte] at G1
          clear hgt hb hh
          go_wp2_with fail
          refine G1.out.mono ?_
          rintro e w' ⟨rfl, hw⟩
          obtain rfl : _ = w' := hw.symm
          go_wp2
          go_ret
          exact ⟨rfl, HB.out⟩
        · rw [hgt.1, hgt.2, hb, hh] at G1
          simp only [Bool.not_false, Bool.true_and, and_self, reduceIte] at G1
          obtain ⟨R, hR⟩ : ∃ y, Hid (x.r = y) := ⟨_, rfl⟩
          rw [hR.out] at G1 ⊢
          clear hgt hb hh hm0 hR
          go_wp2_with fail
          refine G1.out.mono ?_
          rintro e w' ⟨rfl, hw⟩
          obtain rfl : _ = w' := hw.symm
          go_wp2
          go_ret
          exact ⟨rfl, HB.out⟩
    · have G1 := hide (get_any [x] g 1 0 wr HO.out rfl (by omega) ⟨by omega, by omega⟩)
      have hgt := get_nat [x] 0 (by simp) x rfl
      rw [show ((0 : Nat) : Int) = 0 from rfl] at hgt
      rcases hc with ⟨hh, rfl, rfl⟩ | ⟨hh, hm0, hm1, hm2, rfl⟩
      · rw [hgt.1, hgt.2, hb, hh] at G1
        simp only [Bool.not_false, Bool.and_false, true_and, Bool.false_eq_true, reduceIte] at G1
        clear hgt hb hh
        go_wp2_with fail
        refine G1.out.mono ?_
        rintro e w' ⟨rfl, hw⟩
        obtain rfl : _ = w' := hw.symm
        go_wp2
        go_ret
        exact ⟨rfl, HB.out⟩
      · rw [hgt.1, hgt.2, hb, hh] at G1
        simp only [Bool.not_false, Bool.true_and, and_self, reduceIte] at G1
        obtain ⟨R, hR⟩ : ∃ y, Hid (x.r = y) := ⟨_, rfl⟩
        rw [hR.out] at G1 ⊢
        clear hgt hb hh hm0 hR
        go_wp2_with fail
        refine G1.out.mono ?_
        rintro e w' ⟨rfl, hw⟩
        obtain rfl : _ = w' := hw.symm
        go_wp2
        go_ret
        exact ⟨rfl, HB.out⟩

set_option maxRecDepth 100000 in
theorem lifted (os : Os) (started : os.Started) (H : Type) (enc : TypeId × Value → H) :
    ReturnsInHanded {} Try.checked os 7 .any (Rows.latestOrderSpec.pre6 enc Try.prog Try.f7 Rows.latestOrderRow.domain false) (Rows.latestOrderSpec.post enc Try.prog Try.f7 false true false false) := by
  refine returnsInHanded_of_change (C := Try.checked) own started (by kernel_rfl) Try.func7
    (ChangeSpec.witness6 (enc := enc) (C := Try.checked) false ⟨#[], #[.slice none 0 0, .slice none 0 0], []⟩ 8 (by kernel_rfl) (by kernel_rfl) (by kernel_rfl) (by kernel_rfl)) ?_
  intro W base args ds gs before hval0 hW hcnd _
  have hval : ∀ (j : Nat) t v, Try.f7.params[j]? = some t → args[j]? = some v → Value.okWide Try.prog W .any base t v := hval0
  have hW' := hW
  obtain ⟨p, q, hA0, hV, rfl, hfz, hnd⟩ := hW
  have hA : DataW.TrodAll enc Try.prog W 0 (fun _ => true) true Try.f7.params.toList args.toList ds p := hA0
  rw [Try.params7] at hA hval
  obtain ⟨v0, vs0, d0, ds0, p0, q0, hargs, rfl, rfl, h0, r0⟩ := trodAll_cons hA
  obtain ⟨v1, vs1, d1, ds1, p1, q1, rfl, rfl, rfl, h1, r1⟩ := trodAll_cons r0
  obtain ⟨rfl, rfl, rfl⟩ := trodAll_nil r1
  obtain rfl : args = #[v0, v1] := by cases args; simp_all
  obtain ⟨rfl, rfl⟩ := trodVars_none hV
  obtain ⟨a0, len0, cap0, rfl⟩ := okWide_slice Try.underlying76 (hval 0 76 v0 rfl rfl)
  have k0 := h0
  have lt0 : ∀ x ∈ p0, x.block < W.heap.size := by obtain ⟨m, hm⟩ := k0; exact DataW.trod_lt m _ _ _ hm
  obtain ⟨z0, w0⟩ : ∃ zs, IsRow .u8 W a0 len0 cap0 zs := by
    obtain ⟨fuel, hf⟩ := h0
    rcases open_ints Try.underlying76 Try.underlying5 (by kernel_rfl) hf with ⟨hcs, _⟩ | ⟨x, l, c, zs, hcs, _, hl, hm, hz, _, hcell, hwz⟩
    · simp [Value.cells] at hcs
      obtain ⟨rfl, rfl, rfl⟩ := hcs
      exact ⟨[], .inl ⟨rfl, rfl, rfl, rfl⟩⟩
    · simp [Value.cells] at hcs
      obtain ⟨rfl, rfl, rfl⟩ := hcs
      exact ⟨zs, .inr ⟨_, rfl, hl, hm, by simpa using hz, hcell, hwz⟩⟩
  obtain ⟨a1, len1, cap1, rfl⟩ := okWide_slice Try.underlying22 (hval 1 22 v1 rfl rfl)
  have k1 := h1
  have lt1 : ∀ x ∈ p1, x.block < W.heap.size := by obtain ⟨m, hm⟩ := k1; exact DataW.trod_lt m _ _ _ hm
  obtain ⟨z1, w1⟩ : ∃ zs, IsRow .u64 W a1 len1 cap1 zs := by
    obtain ⟨fuel, hf⟩ := h1
    rcases open_ints Try.underlying22 Try.underlying32 (by kernel_rfl) hf with ⟨hcs, _⟩ | ⟨x, l, c, zs, hcs, _, hl, hm, hz, _, hcell, hwz⟩
    · simp [Value.cells] at hcs
      obtain ⟨rfl, rfl, rfl⟩ := hcs
      exact ⟨[], .inl ⟨rfl, rfl, rfl, rfl⟩⟩
    · simp [Value.cells] at hcs
      obtain ⟨rfl, rfl, rfl⟩ := hcs
      exact ⟨zs, .inr ⟨_, rfl, hl, hm, by simpa using hz, hcell, hwz⟩⟩
  clear hA0 hval0
  refine (walk a0 len0 cap0 z0 a1 len1 cap1 z1 W w0 w1).mono fun e W' ⟨he, bel⟩ => ?_
  subst he
  exact ⟨_, rfl, _, _, _, [], _, [], hW', trodAll_mk1 (shut_bool Try.underlying4 _), (trodAll_cons_mk (Below.trod laidOut (by kernel_rfl) (of_decide_eq_true (by kernel_rfl)) k0 bel lt0) (trodAll_cons_mk (Below.trod laidOut (by kernel_rfl) (of_decide_eq_true (by kernel_rfl)) k1 bel lt1) trodAll_mk0)), rfl, bel.frame _, fun h => by cases h⟩

theorem over : Rows.latestOrderRow.holds Try.pinned (OpenSpec.ofChange Rows.latestOrderSpec) :=
  OpenClaim.holds_of_wide 7 Try.f7 rfl rfl rfl rfl rfl rfl rfl ⟨rfl, rfl, rfl, rfl, rfl⟩ rfl rfl rfl rfl rfl (by kernel_rfl) Try.func7 (by kernel_rfl)
    (of_decide_eq_true (by kernel_rfl)) (by unfold Func.isWrapper; first | (rw [if_pos (by decide +kernel)]; kernel_rfl) | (rw [if_neg (by decide +kernel)]; exact ⟨rfl, rfl⟩))
    (fun os started H enc _ => lifted os started H enc)

theorem proved : Rows.LatestOrderSaid := over
end Go.Proofs.Ytedpieepfbcboaa.latestOrder

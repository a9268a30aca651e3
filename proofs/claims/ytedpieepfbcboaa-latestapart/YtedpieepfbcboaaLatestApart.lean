/-
  what is done to one validator changes nothing of another one (LatestApart is true of every input).
-/
import Derived.Test.YtedpieepfbcboaaRows

import Derived.WalkKit

import Derived.Below

import Derived.ProofKit

import Derived.OpenShut

import Derived.ShutString

import Derived.ChangeOld

import Derived.Test.YtedpieepfbcboaaEntMath

namespace Go.Proofs.Ytedpieepfbcboaa.latestApart

open Go.ChangeShapes Go.WideShapes Go.ChangeAt Go.RowKit

set_option linter.unusedVariables false

theorem own : ownKnob Try.prog.godebug = none := by kernel_rfl
theorem laidOut : laidOutB Try.prog = true := by kernel_rfl
theorem cells4 : Try.prog.cellsOf 4 = 1 := by kernel_rfl
theorem cells5 : Try.prog.cellsOf 5 = 1 := by kernel_rfl
theorem cells32 : Try.prog.cellsOf 32 = 1 := by kernel_rfl
theorem cells66 : Try.prog.cellsOf 66 = 1 := by kernel_rfl
theorem other_one (i k n : Nat) (hi : i < n) (hk : k < n) (h : i = k) (hn : 2 ≤ n) : (k + 1) % n < n ∧ (k + 1) % n ≠ i := by
  refine ⟨Nat.mod_lt _ (by omega), ?_⟩
  subst h
  by_cases e : i + 1 = n
  · rw [e, Nat.mod_self]; omega
  · rw [Nat.mod_eq_of_lt (by omega)]; omega

set_option maxRecDepth 100000 in
set_option maxHeartbeats 4000000 in
theorem walk (a0 : Int) (a1 : Int) (a2 : Int) (a3 : Int) (a4 : Int) (w : World) (w0 : (Lit.int .u8 a0).wf = true) (w1 : (Lit.int .u8 a1).wf = true) (w2 : (Lit.int .u8 a2).wf = true) (w3 : (Lit.int .i8 a3).wf = true) (w4 : (Lit.int .u64 a4).wf = true) :
    Calls Try.prog 11 #[.int .u8 a0, .int .u8 a1, .int .u8 a2, .int .i8 a3, .int .u64 a4] w fun e w' => e = .returned (.bool true) ∧ Below w.heap.size w w' := by
  have hA := wf_u8e w0
  have hB := wf_u8e w1
  have hC := wf_u8e w2
  have hD := wf_i8e w3
  clear w0 w1 w2 w3 w4
  obtain ⟨n, hn⟩ : ∃ n : Nat, Hid (2 + a0 % 20 = (n : Int)) := ⟨(2 + a0 % 20).toNat, by show _ = _; omega⟩
  have hn20 : 2 ≤ n ∧ n ≤ 22 := by have := hn.out; omega
  obtain ⟨i, hi⟩ : ∃ i : Nat, Hid (a1 % (n : Int) = (i : Int)) := ⟨(a1 % (n : Int)).toNat, by show _ = _; have := Int.emod_nonneg a1 (b := (n : Int)) (by omega); omega⟩
  obtain ⟨k, hk⟩ : ∃ k : Nat, Hid (a2 % (n : Int) = (k : Int)) := ⟨(a2 % (n : Int)).toNat, by show _ = _; have := Int.emod_nonneg a2 (b := (n : Int)) (by omega); omega⟩
  have hin : i < n := by have h := hi.out; have := Int.emod_lt_of_pos a1 (b := (n : Int)) (by omega); omega
  have hkn : k < n := by have h := hk.out; have := Int.emod_lt_of_pos a2 (b := (n : Int)) (by omega); omega
  have hti : a1.tmod (n : Int) = (i : Int) := by rw [Int.tmod_eq_emod_of_nonneg hB.1]; exact hi.out
  have htk : a2.tmod (n : Int) = (k : Int) := by rw [Int.tmod_eq_emod_of_nonneg hC.1]; exact hk.out
  have hn0 : ¬ (n : Int) = 0 := by omega
  go_enter Try.func11, Try.ntmps11
  go_wp2_with fail
  refine (awake_any _).mono ?_
  rintro e w1 ⟨rfl, hb1⟩
  have HB1 := hide hb1
  clear hb1
  go_upto_region 4 with fail
  rw [hn.out]
  generalize a0 % 20 = z0
  go_wp2_with fail
  refine (of_ent (n : Int) w1 ⟨by omega, by omega⟩).mono ?_
  rintro e w2 ⟨g, rfl, ho, hg, hb⟩
  rw [show sizeE (n : Int) = n from by rw [sizeE_of _ ⟨by omega, by omega⟩]; omega] at ho ⊢
  have HO := hide ho
  have HB := hide (HB1.out.trans (hb.mono HB1.out.size))
  have HG := hide (Nat.le_trans HB1.out.size hg)
  have HGL := hide ho.lt
  clear ho hb hg HB1
  clear hi hk hA hn
  go_upto_region 7 with fail
  go_quiet (fail)
  have HO2 := hide (HO.out.below (below_drewN (Below.refl _ _) nq))
  have HB2 := hide (below_drewN HB.out nq)
  generalize w2.drewN nq = w3 at *
  clear HO HB HGL hti htk hB hC
  go_upto_if 40 with fail
  go_cut [14] from 38 to 44 (fun x wx => ∃ j : Nat, x = .int .i64 (j : Int) ∧ j < n ∧ j ≠ i ∧ wx = w3)
  case first =>
    by_cases hik : i = k
    · subst hik
      have hm := other_one i i n hin hin rfl hn20.1
      obtain ⟨j, hj⟩ : ∃ j, Hid ((i + 1) % n = j) := ⟨_, rfl⟩
      rw [hj.out] at hm
      have ht : ((i : Int) + 1).tmod (n : Int) = (j : Int) := by rw [Int.tmod_eq_emod_of_nonneg (by omega), ← hj.out]; push_cast; rfl
      have hwi : IntKind.i64.wrap ((i : Int) + 1) = (i : Int) + 1 := by rw [IntKind.wrap_i64]; omega
      go_wp2
      go_meet
      exact ⟨j, rfl, hm.1, hm.2, rfl⟩
    · have hd : ((i : Int) == (k : Int)) = false := by simp; omega
      go_wp2
      go_meet
      exact ⟨k, rfl, hkn, fun e => hik e.symm, rfl⟩
  case rest =>
    obtain ⟨j, rfl, hj, hji, hw⟩ := hcut
    obtain rfl : _ = wc := hw.symm
    have hlen : (List.replicate n Ent.zero).length = n := List.length_replicate
    obtain ⟨es, hes⟩ : ∃ x, Hid (List.replicate n Ent.zero = x) := ⟨_, rfl⟩
    rw [hes.out] at hlen HO2
    have hzi : entK es i = Ent.zero := by rw [← hes.out]; exact entK_rep n i
    have hzj : entK es j = Ent.zero := by rw [← hes.out]; exact entK_rep n j
    have hil : i < es.length := by omega
    have t1 : takeB es (i : Int) a3 = true := by rw [take_nat es i hil _ hzi]; rfl
    have hi1 : I64e (i : Int) := ⟨by omega, by omega⟩
    have hi3 : I64e a3 := ⟨by omega, by omega⟩
    have T1 := hide (fun w' (h : OAt w' g (eobj es)) => take_any es g n i a3 a4 w' h hlen (by omega) hi1 hi3)
    rw [t1, takeE_nat es i hil a3 a4 t1] at T1
    obtain ⟨e2, he2⟩ : ∃ x, Hid (es.set i ⟨true, a3, a4, false⟩ = x) := ⟨_, rfl⟩
    have hz2 : entK e2 i = ⟨true, a3, a4, false⟩ := by rw [← he2.out, entK_set _ _ _ _ hil, if_pos rfl]
    have hj2 : entK e2 j = Ent.zero := by rw [← he2.out, entK_set _ _ _ _ hil, if_neg hji, hzj]
    have hl2 : e2.length = n := by rw [← he2.out, List.length_set]; exact hlen
    have hi2 : i < e2.length := by omega
    have B1 := hide (fun w' (h : OAt w' g (eobj e2)) => ban_any e2 g n i w' h hl2 (by omega) hi1)
    rw [ct_nat e2 i hi2, hz2, banE_nat e2 i hi2 _ hz2] at B1
    obtain ⟨e3, he3⟩ : ∃ x, Hid (e2.set i ⟨true, a3, a4, true⟩ = x) := ⟨_, rfl⟩
    have hz3 : entK e3 i = ⟨true, a3, a4, true⟩ := by rw [← he3.out, entK_set _ _ _ _ hi2, if_pos rfl]
    have hj3 : entK e3 j = Ent.zero := by rw [← he3.out, entK_set _ _ _ _ hi2, if_neg hji, hj2]
    have hl3 : e3.length = n := by rw [← he3.out, List.length_set]; exact hl2
    simp only [he2.out] at T1
    simp only [he3.out] at B1
    obtain ⟨c0, c1, c2, c3⟩ := ent_cells HO2.out j (by omega) _ hzj
    unfold Ent.zero at c0 c1 c2 c3
    simp only at c0 c1 c2 c3
    have HW := hide (OAt.new w3 (.cells #[.bool false, .int .i64 0, .int .u64 0, .bool false] 71))
    have HO3 := hide (HO2.out.alloc (.cells #[.bool false, .int .i64 0, .int .u64 0, .bool false] 71))
    have HB3 := hide (HB2.out.alloc HB2.out.size (.cells #[.bool false, .int .i64 0, .int .u64 0, .bool false] 71))
    have hgl : g < w3.heap.size := HO2.out.lt
    clear HO2 HB2 hes he2 he3 hzi hzj hz2 hj2 t1 hlen hl2 hil hi2
    go_upto_region 11 with fail
    generalize hW4 : w3.alloc (.cells #[.bool false, .int .i64 0, .int .u64 0, .bool false] 71) = w4 at *
    clear hW4 c0 c1 c2 c3
    obtain ⟨v, hv⟩ : ∃ x, Hid (w3.heap.size = x) := ⟨_, rfl⟩
    rw [hv.out] at HW hgl ⊢
    clear hv
    go_wp2_with fail
    refine (T1.out _ HO3.out).mono ?_
    rintro e w5 ⟨rfl, ho, ha⟩
    have HO5 := hide ho
    have HB5 := hide (turned HB3.out ha HB3.out.size HG.out)
    have HW5 := hide (HW.out.apart ha (by omega))
    clear ho ha T1 HB3 HO3 HW
    go_wp2_with fail
    refine (B1.out _ HO5.out).mono ?_
    rintro e w6 ⟨rfl, ho, ha⟩
    have HB6 := hide (turned HB5.out ha HB5.out.size HG.out)
    have HW6 := HW5.out.apart ha (by omega)
    obtain ⟨c0, c1, c2, c3⟩ := ent_cells ho j (by omega) _ hj3
    unfold Ent.zero at c0 c1 c2 c3
    obtain ⟨d0, d1, d2, d3⟩ := ent_cells ho i (by omega) _ hz3
    simp only at c0 c1 c2 c3 d0 d1 d2 d3
    have v0 := HW6.cell 0
    have v1 := HW6.cell 1
    have v2 := HW6.cell 2
    have v3 := HW6.cell 3
    simp only [List.getElem?_toArray, List.getElem?_cons_zero, List.getElem?_cons_succ] at v0 v1 v2 v3
    clear ho ha B1 HB5 HO5 HW5 HW6 hj3 hz3 hl3
    go_upto_region 13 with fail
    go_quiet (fail)
    go_wp2
    go_ret
    exact ⟨rfl, below_drewN HB6.out _⟩

set_option maxRecDepth 100000 in
theorem lifted (os : Os) (started : os.Started) (H : Type) (enc : TypeId × Value → H) :
    ReturnsInHanded {} Try.checked os 11 .any (Rows.latestApartSpec.pre6 enc Try.prog Try.f11 Rows.latestApartRow.domain false) (Rows.latestApartSpec.post enc Try.prog Try.f11 false true false false) := by
  refine returnsInHanded_of_change (C := Try.checked) own started (by kernel_rfl) Try.func11
    (ChangeSpec.witness6 (enc := enc) (C := Try.checked) false ⟨#[], #[.int .u8 0, .int .u8 0, .int .u8 0, .int .i8 0, .int .u64 0], []⟩ 8 (by kernel_rfl) (by kernel_rfl) (by kernel_rfl) (by kernel_rfl)) ?_
  intro W base args ds gs before hval0 hW hcnd _
  have hval : ∀ (j : Nat) t v, Try.f11.params[j]? = some t → args[j]? = some v → Value.okWide Try.prog W .any base t v := hval0
  have hW' := hW
  obtain ⟨p, q, hA0, hV, rfl, hfz, hnd⟩ := hW
  have hA : DataW.TrodAll enc Try.prog W 0 (fun _ => true) true Try.f11.params.toList args.toList ds p := hA0
  rw [Try.params11] at hA hval
  obtain ⟨v0, vs0, d0, ds0, p0, q0, hargs, rfl, rfl, h0, r0⟩ := trodAll_cons hA
  obtain ⟨v1, vs1, d1, ds1, p1, q1, rfl, rfl, rfl, h1, r1⟩ := trodAll_cons r0
  obtain ⟨v2, vs2, d2, ds2, p2, q2, rfl, rfl, rfl, h2, r2⟩ := trodAll_cons r1
  obtain ⟨v3, vs3, d3, ds3, p3, q3, rfl, rfl, rfl, h3, r3⟩ := trodAll_cons r2
  obtain ⟨v4, vs4, d4, ds4, p4, q4, rfl, rfl, rfl, h4, r4⟩ := trodAll_cons r3
  obtain ⟨rfl, rfl, rfl⟩ := trodAll_nil r4
  obtain rfl : args = #[v0, v1, v2, v3, v4] := by cases args; simp_all
  obtain ⟨rfl, rfl⟩ := trodVars_none hV
  obtain ⟨a0, rfl, rfl, rfl, w0⟩ := open_int Try.underlying5 (hval 0 5 v0 rfl rfl) h0
  obtain ⟨a1, rfl, rfl, rfl, w1⟩ := open_int Try.underlying5 (hval 1 5 v1 rfl rfl) h1
  obtain ⟨a2, rfl, rfl, rfl, w2⟩ := open_int Try.underlying5 (hval 2 5 v2 rfl rfl) h2
  obtain ⟨a3, rfl, rfl, rfl, w3⟩ := open_int Try.underlying66 (hval 3 66 v3 rfl rfl) h3
  obtain ⟨a4, rfl, rfl, rfl, w4⟩ := open_int Try.underlying32 (hval 4 32 v4 rfl rfl) h4
  clear hA0 hval0
  refine (walk a0 a1 a2 a3 a4 W w0 w1 w2 w3 w4).mono fun e W' ⟨he, bel⟩ => ?_
  subst he
  exact ⟨_, rfl, _, _, _, [], _, [], hW', trodAll_mk1 (shut_bool Try.underlying4 _), (trodAll_cons_mk (shut_int Try.underlying5 w0) (trodAll_cons_mk (shut_int Try.underlying5 w1) (trodAll_cons_mk (shut_int Try.underlying5 w2) (trodAll_cons_mk (shut_int Try.underlying66 w3) (trodAll_cons_mk (shut_int Try.underlying32 w4) trodAll_mk0))))), rfl, bel.frame _, fun h => by cases h⟩

theorem over : Rows.latestApartRow.holds Try.pinned (OpenSpec.ofChange Rows.latestApartSpec) :=
  OpenClaim.holds_of_wide 11 Try.f11 rfl rfl rfl rfl rfl rfl rfl ⟨rfl, rfl, rfl, rfl, rfl⟩ rfl rfl rfl rfl rfl (by kernel_rfl) Try.func11 (by kernel_rfl)
    (of_decide_eq_true (by kernel_rfl)) (by unfold Func.isWrapper; first | (rw [if_pos (by decide +kernel)]; kernel_rfl) | (rw [if_neg (by decide +kernel)]; exact ⟨rfl, rfl⟩))
    (fun os started H enc _ => lifted os started H enc)

theorem proved : Rows.LatestApartSaid := over
end Go.Proofs.Ytedpieepfbcboaa.latestApart

/-
  there are as many entries as are asked for, from 0 to 4096, and none of others (LatestNone is true of every input).
-/
import Derived.Test.YtedpieepfbcboaaRows

import Derived.WalkKit

import Derived.Below

import Derived.ProofKit

import Derived.OpenShut

import Derived.ShutString

import Derived.ChangeOld

import Derived.Test.YtedpieepfbcboaaEntMath

namespace Go.Proofs.Ytedpieepfbcboaa.latestNone

open Go.ChangeShapes Go.WideShapes Go.ChangeAt Go.RowKit

set_option linter.unusedVariables false

theorem own : ownKnob Try.prog.godebug = none := by kernel_rfl
theorem laidOut : laidOutB Try.prog = true := by kernel_rfl
theorem cells3 : Try.prog.cellsOf 3 = 1 := by kernel_rfl
theorem cells4 : Try.prog.cellsOf 4 = 1 := by kernel_rfl

set_option maxRecDepth 100000 in
set_option maxHeartbeats 2000000 in
theorem walk (a0 : Int) (a1 : Int) (w : World) (w0 : (Lit.int .i64 a0).wf = true) (w1 : (Lit.int .i64 a1).wf = true) :
    Calls Try.prog 8 #[.int .i64 a0, .int .i64 a1] w fun e w' => e = .returned (.bool true) ∧ Below w.heap.size w w' := by
  have hi0 := I64e_of (wf_i64 w0)
  have hi1 := I64e_of (wf_i64 w1)
  have hw1 := wf_i64 w1
  have i0 : I64e 0 := ⟨by omega, by omega⟩
  have i9 : I64e 9 := ⟨by omega, by omega⟩
  have i1 : I64e 1 := ⟨by omega, by omega⟩
  clear w0 w1
  go_enter Try.func8, Try.ntmps8
  go_wp2_with fail
  refine (awake_any _).mono ?_
  rintro e w1 ⟨rfl, hb1⟩
  have HB1 := hide hb1
  clear hb1
  go_wp2_with fail
  refine (of_ent a0 w1 hi0).mono ?_
  rintro e w2 ⟨g, rfl, ho, hg, hb⟩
  have hkk := hide (sizeE_cases a0)
  have hkb := sizeE_b a0
  generalize sizeE a0 = k at ho hkk hkb ⊢
  have HO := hide ho
  have HB := hide (HB1.out.trans (hb.mono HB1.out.size))
  have HG := hide (Nat.le_trans HB1.out.size hg)
  clear ho hb hg HB1
  go_upto_region 4 with fail
  go_cut [6] from 13 to 15 (fun x wx => x = .int .i64 (k : Int) ∧ wx = w2)
  case first =>
    by_cases h0 : a0 ≤ 0
    · have hk3 := hide (hkk.out.1 h0)
      clear hkk hkb
      go_wp2
      go_meet
      exact ⟨by rw [hk3.out], rfl⟩
    · by_cases h1 : 4096 < a0
      · have hk3 := hide (hkk.out.2.1 h1)
        clear hkk hkb
        go_wp2
        go_meet
        exact ⟨by rw [hk3.out], rfl⟩
      · have hk3 := hide (hkk.out.2.2 (by omega) (by omega))
        clear hkk hkb
        go_wp2
        go_meet
        exact ⟨by rw [← hk3.out], rfl⟩
  case rest =>
    obtain ⟨rfl, hw⟩ := hcut
    obtain rfl : _ = wc := hw.symm
    clear hkk
    have hlen : (List.replicate k Ent.zero).length = k := List.length_replicate
    by_cases hin : 0 ≤ a1 ∧ a1 < k
    · obtain ⟨j, rfl⟩ : ∃ j : Nat, a1 = (j : Int) := ⟨a1.toNat, by omega⟩
      have hj : j < k := by omega
      have hjl : j < (List.replicate k Ent.zero).length := by rw [hlen]; exact hj
      obtain ⟨es, hes⟩ : ∃ x, Hid (List.replicate k Ent.zero = x) := ⟨_, rfl⟩
      have hz : entK es j = Ent.zero := by rw [← hes.out]; exact entK_rep k j
      rw [hes.out] at hlen hjl HO
      have t1 : takeB es (j : Int) 0 = true := by rw [take_nat es j hjl _ hz]; rfl
      have T1 := hide (take_any es g k j 0 3 w2 HO.out hlen hkb hi1 i0)
      rw [t1, takeE_nat es j hjl 0 3 t1] at T1
      obtain ⟨e2, he2⟩ : ∃ x, Hid (es.set j ⟨true, 0, 3, false⟩ = x) := ⟨_, rfl⟩
      have hz2 : entK e2 j = ⟨true, 0, 3, false⟩ := by rw [← he2.out, entK_set _ _ _ _ hjl, if_pos rfl]
      have hl2 : e2.length = k := by rw [← he2.out, List.length_set]; exact hlen
      rw [he2.out] at T1
      have hj2 : j < e2.length := by omega
      have B1 := hide (fun w' (h : OAt w' g (eobj e2)) => ban_any e2 g k j w' h hl2 hkb hi1)
      rw [ct_nat e2 j hj2, hz2, banE_nat e2 j hj2 _ hz2] at B1
      obtain ⟨e3, he3⟩ : ∃ x, Hid (e2.set j ⟨true, 0, 3, true⟩ = x) := ⟨_, rfl⟩
      have hz3 : entK e3 j = ⟨true, 0, 3, true⟩ := by rw [← he3.out, entK_set _ _ _ _ hj2, if_pos rfl]
      have hl3 : e3.length = k := by rw [← he3.out, List.length_set]; exact hl2
      have hj3 : j < e3.length := by omega
      simp only [he3.out] at B1
      have c3 : ctB e3 (j : Int) = false := by rw [ct_nat e3 j hj3, hz3]; rfl
      have t3 : takeB e3 (j : Int) 9 = false := by rw [take_nat e3 j hj3 _ hz3]; rfl
      have B2 := hide (fun w' (h : OAt w' g (eobj e3)) => ban_any e3 g k j w' h hl3 hkb hi1)
      rw [c3, banE_no e3 _ c3] at B2
      have T2 := hide (fun w' (h : OAt w' g (eobj e3)) => take_any e3 g k j 9 3 w' h hl3 hkb hi1 i9)
      rw [t3, takeE_no e3 _ _ _ t3] at T2
      clear hz hz2 hz3 t1 c3 t3 hlen hl2 hl3 hjl hj2 hj3 hes he2 he3 HO
      go_wp2_with fail
      refine T1.out.mono ?_
      rintro e w3 ⟨rfl, ho, ha⟩
      have HO3 := hide ho
      have HB3 := hide (turned HB.out ha HB.out.size HG.out)
      clear ho ha T1 HB
      go_wp2_with fail
      refine (B1.out _ HO3.out).mono ?_
      rintro e w4 ⟨rfl, ho, ha⟩
      have HO4 := hide ho
      have HB4 := hide (turned HB3.out ha HB3.out.size HG.out)
      clear ho ha B1 HB3
      go_wp2_with fail
      refine (B2.out _ HO4.out).mono ?_
      rintro e w5 ⟨rfl, ho, ha⟩
      have HO5 := hide ho
      have HB5 := hide (turned HB4.out ha HB4.out.size HG.out)
      clear ho ha B2 HB4
      go_wp2_with fail
      refine (T2.out _ HO5.out).mono ?_
      rintro e w6 ⟨rfl, ho, ha⟩
      have HB6 := hide (turned HB5.out ha HB5.out.size HG.out)
      clear ho ha T2 HB5
      go_wp2
      go_ret
      exact ⟨rfl, HB6.out⟩
    · obtain ⟨es, hes⟩ : ∃ x, Hid (List.replicate k Ent.zero = x) := ⟨_, rfl⟩
      rw [hes.out] at hlen HO
      have hout : ¬ (0 ≤ a1 ∧ a1 < es.length) := by rw [hlen]; exact hin
      have G1 := hide (fun w' (h : OAt w' g (eobj es)) => get_any es g k a1 w' h hlen hkb hi1)
      rw [(get_out es a1 hout).1, (get_out es a1 hout).2] at G1
      have T1 := hide (fun w' (h : OAt w' g (eobj es)) => take_any es g k a1 1 1 w' h hlen hkb hi1 i1)
      rw [take_out es a1 1 hout, takeE_no es _ _ _ (take_out es a1 1 hout)] at T1
      have B1 := hide (fun w' (h : OAt w' g (eobj es)) => ban_any es g k a1 w' h hlen hkb hi1)
      rw [ct_out es a1 hout, banE_no es _ (ct_out es a1 hout)] at B1
      clear hout hlen hes
      by_cases hn : a1 < 0
      · have hd : decide (0 ≤ a1) = false := decide_eq_false (by omega)
        clear hin hw1
        go_wp2_with fail
        refine (G1.out _ HO.out).mono ?_
        rintro e w' ⟨rfl, hw⟩
        obtain rfl : _ = w' := hw.symm
        go_wp2_with fail
        refine (T1.out _ HO.out).mono ?_
        rintro e w3 ⟨rfl, ho, ha⟩
        have HO3 := hide ho
        have HB3 := hide (turned HB.out ha HB.out.size HG.out)
        clear ho ha T1 HB
        go_wp2_with fail
        refine (B1.out _ HO3.out).mono ?_
        rintro e w4 ⟨rfl, ho, ha⟩
        have HB4 := hide (turned HB3.out ha HB3.out.size HG.out)
        clear ho ha B1 HB3
        go_wp2
        go_ret
        exact ⟨rfl, HB4.out⟩
      · have h0 : 0 ≤ a1 := by omega
        have hd : ¬ a1 < (k : Int) := by omega
        clear hin hn hw1
        go_wp2_with fail
        refine (G1.out _ HO.out).mono ?_
        rintro e w' ⟨rfl, hw⟩
        obtain rfl : _ = w' := hw.symm
        go_wp2_with fail
        refine (T1.out _ HO.out).mono ?_
        rintro e w3 ⟨rfl, ho, ha⟩
        have HO3 := hide ho
        have HB3 := hide (turned HB.out ha HB.out.size HG.out)
        clear ho ha T1 HB
        go_wp2_with fail
        refine (B1.out _ HO3.out).mono ?_
        rintro e w4 ⟨rfl, ho, ha⟩
        have HB4 := hide (turned HB3.out ha HB3.out.size HG.out)
        clear ho ha B1 HB3
        go_wp2
        go_ret
        exact ⟨rfl, HB4.out⟩

set_option maxRecDepth 100000 in
theorem lifted (os : Os) (started : os.Started) (H : Type) (enc : TypeId × Value → H) :
    ReturnsInHanded {} Try.checked os 8 .any (Rows.latestNoneSpec.pre6 enc Try.prog Try.f8 Rows.latestNoneRow.domain false) (Rows.latestNoneSpec.post enc Try.prog Try.f8 false true false false) := by
  refine returnsInHanded_of_change (C := Try.checked) own started (by kernel_rfl) Try.func8
    (ChangeSpec.witness6 (enc := enc) (C := Try.checked) false ⟨#[], #[.int .i64 0, .int .i64 0], []⟩ 8 (by kernel_rfl) (by kernel_rfl) (by kernel_rfl) (by kernel_rfl)) ?_
  intro W base args ds gs before hval0 hW hcnd _
  have hval : ∀ (j : Nat) t v, Try.f8.params[j]? = some t → args[j]? = some v → Value.okWide Try.prog W .any base t v := hval0
  have hW' := hW
  obtain ⟨p, q, hA0, hV, rfl, hfz, hnd⟩ := hW
  have hA : DataW.TrodAll enc Try.prog W 0 (fun _ => true) true Try.f8.params.toList args.toList ds p := hA0
  rw [Try.params8] at hA hval
  obtain ⟨v0, vs0, d0, ds0, p0, q0, hargs, rfl, rfl, h0, r0⟩ := trodAll_cons hA
  obtain ⟨v1, vs1, d1, ds1, p1, q1, rfl, rfl, rfl, h1, r1⟩ := trodAll_cons r0
  obtain ⟨rfl, rfl, rfl⟩ := trodAll_nil r1
  obtain rfl : args = #[v0, v1] := by cases args; simp_all
  obtain ⟨rfl, rfl⟩ := trodVars_none hV
  obtain ⟨a0, rfl, rfl, rfl, w0⟩ := open_int Try.underlying3 (hval 0 3 v0 rfl rfl) h0
  obtain ⟨a1, rfl, rfl, rfl, w1⟩ := open_int Try.underlying3 (hval 1 3 v1 rfl rfl) h1
  clear hA0 hval0
  refine (walk a0 a1 W w0 w1).mono fun e W' ⟨he, bel⟩ => ?_
  subst he
  exact ⟨_, rfl, _, _, _, [], _, [], hW', trodAll_mk1 (shut_bool Try.underlying4 _), (trodAll_cons_mk (shut_int Try.underlying3 w0) (trodAll_cons_mk (shut_int Try.underlying3 w1) trodAll_mk0)), rfl, bel.frame _, fun h => by cases h⟩

theorem over : Rows.latestNoneRow.holds Try.pinned (OpenSpec.ofChange Rows.latestNoneSpec) :=
  OpenClaim.holds_of_wide 8 Try.f8 rfl rfl rfl rfl rfl rfl rfl ⟨rfl, rfl, rfl, rfl, rfl⟩ rfl rfl rfl rfl rfl (by kernel_rfl) Try.func8 (by kernel_rfl)
    (of_decide_eq_true (by kernel_rfl)) (by unfold Func.isWrapper; first | (rw [if_pos (by decide +kernel)]; kernel_rfl) | (rw [if_neg (by decide +kernel)]; exact ⟨rfl, rfl⟩))
    (fun os started H enc _ => lifted os started H enc)

theorem proved : Rows.LatestNoneSaid := over
end Go.Proofs.Ytedpieepfbcboaa.latestNone

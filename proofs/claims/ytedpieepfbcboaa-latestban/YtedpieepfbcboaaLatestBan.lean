/-
  who is banned has no vote that counts, ahead and behind, and all others have theirs (LatestBan is true of every input).
-/
import Derived.Test.YtedpieepfbcboaaRows

import Derived.WalkKit

import Derived.Below

import Derived.ProofKit

import Derived.OpenShut

import Derived.ShutString

import Derived.ChangeOld

import Derived.Test.YtedpieepfbcboaaEntMath

namespace Go.Proofs.Ytedpieepfbcboaa.latestBan

open Go.ChangeShapes Go.WideShapes Go.ChangeAt Go.RowKit

set_option linter.unusedVariables false

theorem own : ownKnob Try.prog.godebug = none := by kernel_rfl
theorem laidOut : laidOutB Try.prog = true := by kernel_rfl
theorem cells4 : Try.prog.cellsOf 4 = 1 := by kernel_rfl
theorem cells5 : Try.prog.cellsOf 5 = 1 := by kernel_rfl
theorem cells32 : Try.prog.cellsOf 32 = 1 := by kernel_rfl

set_option maxRecDepth 100000 in
set_option maxHeartbeats 4000000 in
theorem walk (a0 : Int) (a1 : Int) (a2 : Int) (a3 : Int) (w : World) (w0 : (Lit.int .u8 a0).wf = true) (w1 : (Lit.int .u8 a1).wf = true) (w2 : (Lit.int .u8 a2).wf = true) (w3 : (Lit.int .u64 a3).wf = true) :
    Calls Try.prog 9 #[.int .u8 a0, .int .u8 a1, .int .u8 a2, .int .u64 a3] w fun e w' => e = .returned (.bool true) ∧ Below w.heap.size w w' := by
  have hA := wf_u8e w0
  have hB := wf_u8e w1
  have hC := wf_u8e w2
  have hD := wf_u64 w3
  clear w0 w1 w2 w3
  obtain ⟨n, hn⟩ : ∃ n : Nat, Hid (1 + a0 % 20 = (n : Int)) := ⟨(1 + a0 % 20).toNat, by show _ = _; omega⟩
  have hn20 : 1 ≤ n ∧ n ≤ 20 := by have := hn.out; omega
  obtain ⟨b, hb⟩ : ∃ b : Nat, Hid (a1 % (n : Int) = (b : Int)) := ⟨(a1 % (n : Int)).toNat, by show _ = _; have := Int.emod_nonneg a1 (b := (n : Int)) (by omega); omega⟩
  have hbn : b < n := by have h := hb.out; have := Int.emod_lt_of_pos a1 (b := (n : Int)) (by omega); omega
  have htb : a1.tmod (n : Int) = (b : Int) := by rw [Int.tmod_eq_emod_of_nonneg hB.1]; exact hb.out
  have hn0 : ¬ (n : Int) = 0 := by omega
  have hi2 : I64e a2 := ⟨by omega, by omega⟩
  have hi2' : I64e (a2 + 1) := ⟨by omega, by omega⟩
  go_enter Try.func9, Try.ntmps9
  go_wp2_with fail
  refine (awake_any _).mono ?_
  rintro e w1 ⟨rfl, hb1⟩
  have HB1 := hide hb1
  clear hb1
  go_upto_region 4 with fail
  rw [hn.out]
  generalize a0 % 20 = z0
  go_wp2_with fail
  refine (of_ent (n : Int) w1 ⟨by omega, by omega⟩).mono ?_
  rintro e w2 ⟨g, rfl, ho, hg, hb⟩
  rw [show sizeE (n : Int) = n from by rw [sizeE_of _ ⟨by omega, by omega⟩]; omega] at ho ⊢
  have HB := hide (HB1.out.trans (hb.mono HB1.out.size))
  have HG := hide (Nat.le_trans HB1.out.size hg)
  have HO := hide ho
  clear ho hb hg HB1 hn hA
  go_wp2_with fail
  go_loopw [11] (fun v wr => ∃ k : Nat, v = .int .i64 (k : Int) ∧ k ≤ n ∧ Hid (∃ es, OAt wr g (eobj es) ∧ es.length = n ∧ (∀ i, entK es i = if i < k then ⟨true, a2, IntKind.u64.wrap (a3 + (i : Int)), false⟩ else Ent.zero) ∧ Below w.heap.size w wr)) (fun v _ => n - (intOf v).toNat)
  case atStart => exact ⟨0, rfl, Nat.zero_le _, hide ⟨_, HO.out, List.length_replicate, fun i => by rw [if_neg (by omega)]; exact entK_rep n i, HB.out⟩⟩
  case round =>
    obtain ⟨k, rfl, hk, hI⟩ := hrel
    obtain ⟨es, ho, hl, hK, hbl⟩ := hI.out
    clear hI HO HB
    have HO := hide ho
    have HK := hide hK
    have HB := hide hbl
    clear ho hK hbl
    by_cases hlt : k < n
    · have hz : entK es k = Ent.zero := by rw [HK.out, if_neg (by omega)]
      have hkl : k < es.length := by omega
      have t1 : takeB es (k : Int) a2 = true := by rw [take_nat es k hkl _ hz]; rfl
      obtain ⟨R, hR⟩ : ∃ x, IntKind.u64.wrap (a3 + (k : Int)) = x := ⟨_, rfl⟩
      have hwk : IntKind.u64.wrap (k : Int) = (k : Int) := by rw [IntKind.wrap_u64]; omega
      have T1 := hide (take_any es g n k a2 R wr HO.out hl (by omega) ⟨by omega, by omega⟩ hi2)
      rw [t1, takeE_nat es k hkl a2 R t1] at T1
      obtain ⟨e2, he2⟩ : ∃ x, Hid (es.set k ⟨true, a2, R, false⟩ = x) := ⟨_, rfl⟩
      have HK2 : Hid (∀ i, entK e2 i = if i < k + 1 then ⟨true, a2, IntKind.u64.wrap (a3 + (i : Int)), false⟩ else Ent.zero) := hide fun i => by
        rw [← he2.out, entK_set _ _ _ _ hkl]
        by_cases h : i = k
        · subst h; rw [if_pos rfl, if_pos (by omega), hR]
        · rw [if_neg h, HK.out]
          by_cases h2 : i < k
          · rw [if_pos h2, if_pos (by omega)]
          · rw [if_neg h2, if_neg (by omega)]
      have hl2 : e2.length = n := by rw [← he2.out, List.length_set]; exact hl
      rw [he2.out] at T1
      clear t1 hz HK HO he2 hkl hl
      go_wp2_with fail
      refine T1.out.mono ?_
      rintro e w3 ⟨rfl, ho, ha⟩
      have HI : Hid (∃ es, OAt w3 g (eobj es) ∧ es.length = n ∧ (∀ i, entK es i = if i < k + 1 then ⟨true, a2, IntKind.u64.wrap (a3 + (i : Int)), false⟩ else Ent.zero) ∧ Below w.heap.size w w3) := hide ⟨e2, ho, hl2, HK2.out, turned HB.out ha HB.out.size HG.out⟩
      clear ho ha T1 HK2 HB hl2
      go_wp2
      go_roundw
      case rel => exact ⟨k + 1, by go_num, by omega, HI⟩
      case measure => simp [intOf]; omega
    · obtain rfl : k = n := by omega
      have hbl : b < es.length := by omega
      have hz : entK es b = ⟨true, a2, IntKind.u64.wrap (a3 + (b : Int)), false⟩ := by rw [HK.out, if_pos (by omega)]
      have B1 := hide (ban_any es g k b wr HO.out hl (by omega) ⟨by omega, by omega⟩)
      rw [ct_nat es b hbl, hz, banE_nat es b hbl _ hz] at B1
      obtain ⟨e2, he2⟩ : ∃ x, Hid (es.set b ⟨true, a2, IntKind.u64.wrap (a3 + (b : Int)), true⟩ = x) := ⟨_, rfl⟩
      have HK2 : Hid (∀ i, i < k → entK e2 i = ⟨true, a2, IntKind.u64.wrap (a3 + (i : Int)), decide (i = b)⟩) := hide fun i hi => by
        rw [← he2.out, entK_set _ _ _ _ hbl]
        by_cases h : i = b
        · subst h; rw [if_pos rfl, decide_eq_true rfl]
        · rw [if_neg h, HK.out, if_pos hi, decide_eq_false h]
      have hl2 : e2.length = k := by rw [← he2.out, List.length_set]; exact hl
      simp only [he2.out] at B1
      have hbl2 : b < e2.length := by omega
      have t2 : takeB e2 (b : Int) (a2 + 1) = false := by rw [take_nat e2 b hbl2 _ (HK2.out b hbn), decide_eq_true rfl]; rfl
      have T2 := hide (fun w' (h : OAt w' g (eobj e2)) => take_any e2 g k b (a2 + 1) 5 w' h hl2 (by omega) ⟨by omega, by omega⟩ hi2')
      rw [t2, takeE_no e2 _ _ _ t2] at T2
      clear t2 hz HK HO he2 hbl hbl2 hl hlt hk
      go_upto_region 11 with fail
      go_wp2_with fail
      refine B1.out.mono ?_
      rintro e w3 ⟨rfl, ho, ha⟩
      have HO3 := hide ho
      have HB3 := hide (turned HB.out ha HB.out.size HG.out)
      clear ho ha B1 HB
      have hw2 : IntKind.i64.wrap (a2 + 1) = a2 + 1 := by rw [IntKind.wrap_i64]; omega
      go_wp2_with fail
      refine (T2.out _ HO3.out).mono ?_
      rintro e w4 ⟨rfl, ho, ha⟩
      have HO4 := hide ho
      have HB4 := hide (turned HB3.out ha HB3.out.size HG.out)
      clear ho ha T2 HB3 HO3
      go_wp2_with fail
      go_loopw [15] (fun v wr => ∃ i : Nat, v = .int .i64 (i : Int) ∧ i ≤ k ∧ wr = w4) (fun v _ => k - (intOf v).toNat)
      case atStart => exact ⟨0, rfl, Nat.zero_le _, rfl⟩
      case round =>
        obtain ⟨i, rfl, hik, rfl⟩ := hrel
        by_cases hlt : i < k
        · have G1 := hide (get_any e2 g k i wr HO4.out hl2 (by omega) ⟨by omega, by omega⟩)
          have hgt := get_nat e2 i (by omega) _ (HK2.out i hlt)
          by_cases hib : i = b
          · subst hib
            rw [hgt.1, hgt.2, decide_eq_true rfl] at G1
            simp only [Bool.not_true, Bool.false_and] at G1
            clear hgt
            go_wp2_with fail
            refine G1.out.mono ?_
            rintro e w' ⟨rfl, hw⟩
            obtain rfl : _ = w' := hw.symm
            go_wp2
            go_roundw
            case rel => exact ⟨i + 1, by go_num, by omega, trivial⟩
            case measure => simp [intOf]; omega
          · rw [hgt.1, hgt.2, decide_eq_false hib] at G1
            simp only [Bool.not_false, Bool.true_and, true_and, reduceIte] at G1
            have hne : ((i : Int) != (b : Int)) = true := by simp; omega
            have hne2 : ((i : Int) == (b : Int)) = false := by simp; omega
            have hne3 : ¬ (i : Int) = (b : Int) := by omega
            obtain ⟨R, hR⟩ : ∃ x, IntKind.u64.wrap (a3 + (i : Int)) = x := ⟨_, rfl⟩
            rw [hR] at G1
            have hwk : IntKind.u64.wrap (i : Int) = (i : Int) := by rw [IntKind.wrap_u64]; omega
            clear hgt
            go_wp2_with fail
            refine G1.out.mono ?_
            rintro e w' ⟨rfl, hw⟩
            obtain rfl : _ = w' := hw.symm
            go_wp2
            go_roundw
            case rel => exact ⟨i + 1, by go_num, by omega, trivial⟩
            case measure => simp [intOf]; omega
        · go_wp2
          go_ret
          exact ⟨rfl, HB4.out⟩

set_option maxRecDepth 100000 in
theorem lifted (os : Os) (started : os.Started) (H : Type) (enc : TypeId × Value → H) :
    ReturnsInHanded {} Try.checked os 9 .any (Rows.latestBanSpec.pre6 enc Try.prog Try.f9 Rows.latestBanRow.domain false) (Rows.latestBanSpec.post enc Try.prog Try.f9 false true false false) := by
  refine returnsInHanded_of_change (C := Try.checked) own started (by kernel_rfl) Try.func9
    (ChangeSpec.witness6 (enc := enc) (C := Try.checked) false ⟨#[], #[.int .u8 0, .int .u8 0, .int .u8 0, .int .u64 0], []⟩ 8 (by kernel_rfl) (by kernel_rfl) (by kernel_rfl) (by kernel_rfl)) ?_
  intro W base args ds gs before hval0 hW hcnd _
  have hval : ∀ (j : Nat) t v, Try.f9.params[j]? = some t → args[j]? = some v → Value.okWide Try.prog W .any base t v := hval0
  have hW' := hW
  obtain ⟨p, q, hA0, hV, rfl, hfz, hnd⟩ := hW
  have hA : DataW.TrodAll enc Try.prog W 0 (fun _ => true) true Try.f9.params.toList args.toList ds p := hA0
  rw [Try.params9] at hA hval
  obtain ⟨v0, vs0, d0, ds0, p0, q0, hargs, rfl, rfl, h0, r0⟩ := trodAll_cons hA
  obtain ⟨v1, vs1, d1, ds1, p1, q1, rfl, rfl, rfl, h1, r1⟩ := trodAll_cons r0
  obtain ⟨v2, vs2, d2, ds2, p2, q2, rfl, rfl, rfl, h2, r2⟩ := trodAll_cons r1
  obtain ⟨v3, vs3, d3, ds3, p3, q3, rfl, rfl, rfl, h3, r3⟩ := trodAll_cons r2
  obtain ⟨rfl, rfl, rfl⟩ := trodAll_nil r3
  obtain rfl : args = #[v0, v1, v2, v3] := by cases args; simp_all
  obtain ⟨rfl, rfl⟩ := trodVars_none hV
  obtain ⟨a0, rfl, rfl, rfl, w0⟩ := open_int Try.underlying5 (hval 0 5 v0 rfl rfl) h0
  obtain ⟨a1, rfl, rfl, rfl, w1⟩ := open_int Try.underlying5 (hval 1 5 v1 rfl rfl) h1
  obtain ⟨a2, rfl, rfl, rfl, w2⟩ := open_int Try.underlying5 (hval 2 5 v2 rfl rfl) h2
  obtain ⟨a3, rfl, rfl, rfl, w3⟩ := open_int Try.underlying32 (hval 3 32 v3 rfl rfl) h3
  clear hA0 hval0
  refine (walk a0 a1 a2 a3 W w0 w1 w2 w3).mono fun e W' ⟨he, bel⟩ => ?_
  subst he
  exact ⟨_, rfl, _, _, _, [], _, [], hW', trodAll_mk1 (shut_bool Try.underlying4 _), (trodAll_cons_mk (shut_int Try.underlying5 w0) (trodAll_cons_mk (shut_int Try.underlying5 w1) (trodAll_cons_mk (shut_int Try.underlying5 w2) (trodAll_cons_mk (shut_int Try.underlying32 w3) trodAll_mk0)))), rfl, bel.frame _, fun h => by cases h⟩

theorem over : Rows.latestBanRow.holds Try.pinned (OpenSpec.ofChange Rows.latestBanSpec) :=
  OpenClaim.holds_of_wide 9 Try.f9 rfl rfl rfl rfl rfl rfl rfl ⟨rfl, rfl, rfl, rfl, rfl⟩ rfl rfl rfl rfl rfl (by kernel_rfl) Try.func9 (by kernel_rfl)
    (of_decide_eq_true (by kernel_rfl)) (by unfold Func.isWrapper; first | (rw [if_pos (by decide +kernel)]; kernel_rfl) | (rw [if_neg (by decide +kernel)]; exact ⟨rfl, rfl⟩))
    (fun os started H enc _ => lifted os started H enc)

theorem proved : Rows.LatestBanSaid := over
end Go.Proofs.Ytedpieepfbcboaa.latestBan

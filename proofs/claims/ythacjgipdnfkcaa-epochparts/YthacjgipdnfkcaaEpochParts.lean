/-
  the epochs that end between two slots are those up to a third one between them, and those from that on (EpochParts is true of every input).
-/
import Derived.Test.YthacjgipdnfkcaaRows
import Derived.WalkKit
import Derived.Below
import Derived.ProofKit
import Derived.OpenShut
import Derived.ShutString
import Derived.Test.YthacjgipdnfkcaaEpMath
import Derived.Test.YthacjgipdnfkcaaRowLaws
namespace Go.Proofs.Ythacjgipdnfkcaa.epochParts
open Go.ChangeShapes Go.WideShapes Go.ChangeAt Go.RowKit
open Go.ChangeMaps (open_string shut_string)
set_option linter.unusedVariables false      -- a walk need not use every 'w<i>' (that an integer argument fits its kind)

theorem own : ownKnob Try.prog.godebug = none := by kernel_rfl

set_option maxHeartbeats 1000000 in
theorem walk (a0 : Int) (a1 : Int) (a2 : Int) (a3 : Int) (w0 : (Lit.int .u16 a0).wf = true) (w1 : (Lit.int .u16 a1).wf = true) (w2 : (Lit.int .u16 a2).wf = true) (w3 : (Lit.int .u8 a3).wf = true) (w : World) :
    Calls Try.prog 6 #[.int .u16 a0, .int .u16 a1, .int .u16 a2, .int .u8 a3] w fun e w' => e = .returned (.bool true) ∧ Below w.heap.size w w' := by
  have hA := wf_u16 w0
  have hB := wf_u16 w1
  have hC := wf_u16 w2
  have hS := wf_u8 w3
  clear w0 w1 w2 w3
  obtain ⟨n, hnn⟩ : ∃ n, Hid (1 + a3 % 64 = n) := ⟨_, rfl⟩
  have hn : 1 ≤ n ∧ n ≤ 64 := by have := hnn.out; omega
  obtain ⟨x, hx⟩ : ∃ x, Hid (a0 % 2000 = x) := ⟨_, rfl⟩
  obtain ⟨y, hy⟩ : ∃ y, Hid (a0 % 2000 + a1 % 2000 = y) := ⟨_, rfl⟩
  obtain ⟨z, hz⟩ : ∃ z, Hid (a0 % 2000 + a1 % 2000 + a2 % 2000 = z) := ⟨_, rfl⟩
  have hb : 0 ≤ x ∧ x ≤ y ∧ y ≤ x + 1999 ∧ y ≤ z ∧ z ≤ y + 1999 ∧ x ≤ 1999 := by have := hx.out; have := hy.out; have := hz.out; omega
  have m1 := epo_mono x y n (by omega) (by omega) hn.1
  have m2 := epo_mono y z n (by omega) (by omega) hn.1
  have l1 := epo_le x y n (by omega) (by omega) hn.1
  have l2 := epo_le y z n (by omega) (by omega) hn.1
  obtain ⟨p, hp⟩ : ∃ p : Nat, Hid (ends x y n = (p : Int)) := ⟨(ends x y n).toNat, by
    have h : ends x y n = ((ends x y n).toNat : Int) := by unfold ends; split <;> omega
    exact h⟩
  obtain ⟨q, hq⟩ : ∃ q : Nat, Hid (ends y z n = (q : Int)) := ⟨(ends y z n).toNat, by
    have h : ends y z n = ((ends y z n).toNat : Int) := by unfold ends; split <;> omega
    exact h⟩
  have hpe : epo y n - epo x n = (p : Int) := by have h := hp.out; unfold ends at h; split at h <;> omega
  have hqe : epo z n - epo y n = (q : Int) := by have h := hq.out; unfold ends at h; split at h <;> omega
  have hr : Hid (ends x z n = ((p + q : Nat) : Int)) := by
    have h : ends x z n = ((p + q : Nat) : Int) := by unfold ends; split <;> omega
    exact h
  have hpb : p ≤ 1999 := by omega
  have hqb : q ≤ 1999 := by omega
  have hyx : Hid (epo y n = epo x n + (p : Int)) := by
    have h : epo y n = epo x n + (p : Int) := by omega
    exact h
  clear m1 m2 l1 l2 hpe hqe
  obtain ⟨i0, hi, hz0, hz1, hz2⟩ := info_parts info3
  go_enter Try.func6, Try.ntmps6
  go_wp2_with fail
  refine (awake_any _).mono ?_
  rintro e w1 ⟨rfl, hbel⟩
  go_wp2_with fail
  rw [hnn.out, hz.out, hy.out, hx.out]
  refine (ends_row x y n p _ (by omega) (by omega) (by omega) hp.out).mono ?_
  rintro e w2 ⟨ao2, rfl, hown2, hbel2⟩
  have HB2 := hide (hbel.trans (hbel2.mono hbel.size))
  have HO2 := hide hown2
  have hs2 := hbel2.size
  clear hbel2 hown2
  go_wp2_with fail
  refine (ends_row y z n q _ (by omega) (by omega) (by omega) hq.out).mono ?_
  rintro e w3 ⟨ao3, rfl, hown3, hbel3⟩
  have HO3 := hide (owns_below HO2.out hbel3)
  have HB3 := hide (HB2.out.trans (hbel3.mono HB2.out.size))
  have hs3 := hbel3.size
  obtain ⟨ao3', c3, e3, R3⟩ := RowIn.ofOwned hown3
  cases e3
  have HR3 := hide R3
  clear hbel3 hown3 R3 HO2
  go_wp2_with (first
    | (at_builtin; refine wpList_append_rows _ rfl (.tmp 46) (.tmp 50) 27 rfl w1.heap.size 3 i0 .i64 (.int .i64 0) 8 Try.underlying27 hi hz0 hz1 hz2 rfl (.slice ao2 p p) p (run (epo x n) p) rfl HO3.out ao3 q q (run (epo y n) q) rfl HR3.out ?c1 ?c2 ?c3 ?_))
  case c1 => unfold maxLen; omega
  case c2 => omega
  case c3 => omega
  intro ao4 c4 w4 hown4 hgrow4
  rw [hyx.out, ← List.map_append, run_append] at hown4
  have HB4 := hide (HB3.out.grown hgrow4 HB3.out.size (fun k h => by have := (HO3.out.lt k h).1; have := hbel.size; omega))
  have HO4 := hide hown4
  have hs4 := hgrow4.size
  clear hown4 hgrow4 HO3 HR3
  obtain ⟨t, ht⟩ : ∃ t, Hid (p + q = t) := ⟨_, rfl⟩
  rw [ht.out] at HO4 hr
  have htb : t ≤ 3998 := by have := ht.out; omega
  go_wp2_with fail
  rw [ht.out]
  clear hp hq hpb hqb
  refine (ends_row x z n t _ (by omega) (by omega) (by omega) hr.out).mono ?_
  rintro e w5 ⟨ao5, rfl, hown5, hbel5⟩
  have HB5 := hide (HB4.out.trans (hbel5.mono HB4.out.size))
  have HO5 := owns_below HO4.out hbel5
  obtain ⟨_, _, e5, R5⟩ := RowIn.ofOwned hown5
  cases e5
  obtain ⟨_, _, e4, R4⟩ := RowIn.ofOwned HO5
  cases e4
  have HR5 := hide R5
  have HR4 := hide R4
  clear HO5 hown5 hbel5 R5 R4 HO4 HB4
  go_wp2
  go_loopw [70] (fun i wr => ∃ k nq : Nat, k ≤ t ∧ i = .int .i64 k ∧ wr = w5.drewN nq) (fun i _ => t - (intOf i).toNat)
  case atStart => exact ⟨0, 0, Nat.zero_le _, rfl, rfl⟩
  case round =>
    obtain ⟨k, nq, hk, rfl, rfl⟩ := hrel
    by_cases hlt : k < t
    · obtain ⟨g4, o4, rfl, _, hc4⟩ := HR4.out.cell k hlt
      obtain ⟨g5, o5, rfl, _, hc5⟩ := HR5.out.cell k hlt
      have l1 : (k : Int) < (t : Int) := by omega
      go_wp2
      go_quiet (fail)
      go_wp2
      go_roundw
      case rel => exact ⟨k + 1, _, by omega, by go_num, rfl⟩
      case measure => simp [intOf]; omega
    · have hkk : k = t := by omega
      subst hkk
      go_wp2
      go_ret
      exact ⟨rfl, below_drewN HB5.out _⟩
  -- go_enter Try.func6, Try.ntmps6
  -- go_wp2
  -- go_ret
  -- exact ⟨rfl, by repeat (first | exact Grown.refl _ | apply Grown.drew | apply Grown.alloc)⟩

set_option maxRecDepth 100000 in
theorem lifted (os : Os) (started : os.Started) (H : Type) (enc : TypeId × Value → H) :
    ReturnsInHanded {} Try.checked os 6 .any (Rows.epochPartsSpec.pre6 enc Try.prog Try.f6 Rows.epochPartsRow.domain false) (Rows.epochPartsSpec.post enc Try.prog Try.f6 false true false false) := by
  refine returnsInHanded_of_change (C := Try.checked) own started (by kernel_rfl) Try.func6
    (ChangeSpec.witness6 (enc := enc) (C := Try.checked) false ⟨#[], #[.int .u16 0, .int .u16 0, .int .u16 0, .int .u8 0], []⟩ 8 (by kernel_rfl) (by kernel_rfl) (by kernel_rfl) (by kernel_rfl)) ?_
  intro W base args ds gs before hval0 hW hcnd _
  have hval : ∀ (j : Nat) t v, Try.f6.params[j]? = some t → args[j]? = some v → Value.okWide Try.prog W .any base t v := hval0
  have hW' := hW
  obtain ⟨p, q, hA0, hV, rfl, hfz, hnd⟩ := hW
  have hA : DataW.TrodAll enc Try.prog W 0 (fun _ => true) true Try.f6.params.toList args.toList ds p := hA0
  rw [Try.params6] at hA hval
  obtain ⟨v0, vs0, d0, ds0, p0, q0, hargs, rfl, rfl, h0, r0⟩ := trodAll_cons hA
  obtain ⟨v1, vs1, d1, ds1, p1, q1, rfl, rfl, rfl, h1, r1⟩ := trodAll_cons r0
  obtain ⟨v2, vs2, d2, ds2, p2, q2, rfl, rfl, rfl, h2, r2⟩ := trodAll_cons r1
  obtain ⟨v3, vs3, d3, ds3, p3, q3, rfl, rfl, rfl, h3, r3⟩ := trodAll_cons r2
  obtain ⟨rfl, rfl, rfl⟩ := trodAll_nil r3
  obtain rfl : args = #[v0, v1, v2, v3] := by cases args; simp_all
  obtain ⟨rfl, rfl⟩ := trodVars_none hV
  obtain ⟨a0, rfl, rfl, rfl, w0⟩ := open_int Try.underlying31 (hval 0 31 v0 rfl rfl) h0
  obtain ⟨a1, rfl, rfl, rfl, w1⟩ := open_int Try.underlying31 (hval 1 31 v1 rfl rfl) h1
  obtain ⟨a2, rfl, rfl, rfl, w2⟩ := open_int Try.underlying31 (hval 2 31 v2 rfl rfl) h2
  obtain ⟨a3, rfl, rfl, rfl, w3⟩ := open_int Try.underlying5 (hval 3 5 v3 rfl rfl) h3
  clear hA0 hval0
  refine (walk a0 a1 a2 a3 w0 w1 w2 w3 W).mono fun e W' ⟨he, hg⟩ => ?_
  subst he
  exact ⟨_, rfl, _, _, _, [], _, [], hW', (trodAll_cons_mk (shut_bool Try.underlying4 _) trodAll_mk0), (trodAll_cons_mk (shut_int Try.underlying31 w0) (trodAll_cons_mk (shut_int Try.underlying31 w1) (trodAll_cons_mk (shut_int Try.underlying31 w2) (trodAll_cons_mk (shut_int Try.underlying5 w3) trodAll_mk0)))), rfl, hg.frame _, fun h => by cases h⟩

theorem over : Rows.epochPartsRow.holds Try.pinned (OpenSpec.ofChange Rows.epochPartsSpec) :=
  OpenClaim.holds_of_wide 6 Try.f6 rfl rfl rfl rfl rfl rfl rfl ⟨rfl, rfl, rfl, rfl, rfl⟩ rfl rfl rfl rfl rfl (by kernel_rfl) Try.func6 (by kernel_rfl)
    (of_decide_eq_true (by kernel_rfl)) (by unfold Func.isWrapper; first | (rw [if_pos (by decide +kernel)]; kernel_rfl) | (rw [if_neg (by decide +kernel)]; exact ⟨rfl, rfl⟩))
    (fun os started H enc _ => lifted os started H enc)

theorem proved : Rows.EpochPartsSaid :=
  over
end Go.Proofs.Ythacjgipdnfkcaa.epochParts

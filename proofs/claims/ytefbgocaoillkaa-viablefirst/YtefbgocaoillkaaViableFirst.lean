/-
  while nothing but the first block is justified all blocks may lead to the head (ViableFirst is true of every input).
-/
import Derived.Test.YtefbgocaoillkaaRows

import Derived.WalkKit

import Derived.Below

import Derived.ProofKit

import Derived.OpenShut

import Derived.ShutString

import Derived.ChangeOld

import Derived.Test.YtefbgocaoillkaaVbAwake

namespace Go.Proofs.Ytefbgocaoillkaa.viableFirst

open Go.ChangeShapes Go.WideShapes Go.ChangeAt Go.RowKit

set_option linter.unusedVariables false

theorem own : ownKnob Try.prog.godebug = none := by kernel_rfl
theorem laidOut : laidOutB Try.prog = true := by kernel_rfl
theorem cells4 : Try.prog.cellsOf 4 = 1 := by kernel_rfl
theorem cells5 : Try.prog.cellsOf 5 = 1 := by kernel_rfl
theorem cells22 : Try.prog.cellsOf 22 = 1 := by kernel_rfl

set_option maxRecDepth 100000 in
set_option maxHeartbeats 4000000 in
set_option maxRecDepth 100000 in
theorem walk (a0 : Option Addr) (len0 cap0 : Nat) (z0 : List Int) (a1 : Int) (a2 : Option Addr) (len2 cap2 : Nat) (z2 : List Int) (w : World) (w0 : IsRow .u8 w a0 len0 cap0 z0) (w1 : (Lit.int .u8 a1).wf = true) (w2 : IsRow .u8 w a2 len2 cap2 z2) :
    Calls Try.prog 5 #[.slice a0 len0 cap0, .int .u8 a1, .slice a2 len2 cap2] w fun e w' => e = .returned (.bool true) ∧ Below w.heap.size w w' := by
  have HNR := hide w0.row
  have HNU := hide w0.u8
  clear w0
  have hn := wf_u8e w1
  clear w1
  have HSR := hide w2.row
  have HSU := hide w2.u8
  clear w2
  go_enter Try.func5, Try.ntmps5
  go_wp2_with fail
  refine (vawake_any _).mono ?_
  rintro e V1 ⟨rfl, hbel⟩
  have HB1 := hide hbel
  clear hbel
  have HMD := hide (made_any _ _ _ _ V1 (HNR.out.below HB1.out) HNU.out)
  go_wp2_with fail
  refine HMD.out.mono ?_
  rintro e V ⟨p, sv, bs, ms, i, rfl, hM, hNb, hi3, hMo, hbel⟩
  obtain ⟨a, c, rfl, hrow⟩ := hM.row
  obtain ⟨m, hm⟩ : ∃ m, Hid (ms.length = m) := ⟨_, rfl⟩
  rw [hm.out] at hM hrow ⊢
  have HT := hide hM.tree
  have HN := hide hrow
  have HK := hide hNb
  have HMo := hide hMo
  have HB := hide (HB1.out.trans (hbel.mono HB1.out.size))
  have hml := hide (show m = bs.length by rw [← hm.out]; exact hMo.len)
  have hmi := hide (show m = i + 1 by rw [hml.out]; exact hNb.len)
  have hm1 : 1 ≤ m := by have := hmi.out; omega
  have hm31 : m ≤ 31 := by have := hmi.out; omega
  have hms := hide (fun j (hj : j < m) => show U64 (nd ms j).root by rw [hMo.root j (by rw [← hml.out]; exact hj)]; exact hNb.ok.root j (by rw [← hml.out]; exact hj))
  have hfirst := hide (show (nd ms 0).root = (tb bs 0).root from hMo.root 0 (by have := hml.out; omega))
  clear hM hrow hNb hMo hbel HMD HNR HNU HB1 hm
  have HVW := hide (view_any ms a m c _ _ _ _ 0 0 _ V HN.out ⟨by omega, by omega⟩ (HSR.out.below HB.out) HSU.out (by omega) (by omega) hn hms.out)
  rw [show (0 : Int) % 6 = 0 from rfl, Int.zero_emod, show (0 : Int).toNat = 0 from rfl, hfirst.out] at HVW
  go_wp2_with fail
  refine HVW.out.mono ?_
  rintro e V2 ⟨b, n, f, rfl, hS, hf, hb, hbel⟩
  have HVI := hide (via_any bs _ p 0 1 0 (tb bs 0).root (a1 % 9) (.map (some b)) f V2 (HT.out.below hbel) HK.out.ok (HK.out.ok.root 0 (by have := hml.out; omega)) (by unfold I64; omega) (.inr ⟨b, n, rfl, hS⟩) (fun r => Nat.le_trans (hf r) (by omega)))
  have HB2 := hide (HB.out.trans (hbel.mono HB.out.size))
  clear hbel hS hf hb HVW
  go_upto_region 5 with (go_at_call 11; refine HVI.out.mono ?_; rintro e V3 ⟨am, rfl, hM, ham, hb⟩; have HM := hide hM; have HB3 := hide (HB2.out.trans (hb.mono HB2.out.size)); clear hM ham hb)
  have c1 := fun ty => HM.out.count HK.out.ok ty
  rw [mayL_all HK.out.ok (fun t ht _ => okV_first HK.out.ok _ _ t ht) _ (Nat.le_refl _), ← hml.out] at c1
  clear HM HVI HB2 HT HN HK HMo hms hfirst HSR HSU
  go_wp2
  go_ret
  exact ⟨by simp, HB3.out⟩

set_option maxRecDepth 100000 in
theorem lifted (os : Os) (started : os.Started) (H : Type) (enc : TypeId × Value → H) :
    ReturnsInHanded {} Try.checked os 5 .any (Rows.viableFirstSpec.pre6 enc Try.prog Try.f5 Rows.viableFirstRow.domain false) (Rows.viableFirstSpec.post enc Try.prog Try.f5 false true false false) := by
  refine returnsInHanded_of_change (C := Try.checked) own started (by kernel_rfl) Try.func5
    (ChangeSpec.witness6 (enc := enc) (C := Try.checked) false ⟨#[], #[.slice none 0 0, .int .u8 0, .slice none 0 0], []⟩ 8 (by kernel_rfl) (by kernel_rfl) (by kernel_rfl) (by kernel_rfl)) ?_
  intro W base args ds gs before hval0 hW hcnd _
  have hval : ∀ (j : Nat) t v, Try.f5.params[j]? = some t → args[j]? = some v → Value.okWide Try.prog W .any base t v := hval0
  have hW' := hW
  obtain ⟨p, q, hA0, hV, rfl, hfz, hnd⟩ := hW
  have hA : DataW.TrodAll enc Try.prog W 0 (fun _ => true) true Try.f5.params.toList args.toList ds p := hA0
  rw [Try.params5] at hA hval
  obtain ⟨v0, vs0, d0, ds0, p0, q0, hargs, rfl, rfl, h0, r0⟩ := trodAll_cons hA
  obtain ⟨v1, vs1, d1, ds1, p1, q1, rfl, rfl, rfl, h1, r1⟩ := trodAll_cons r0
  obtain ⟨v2, vs2, d2, ds2, p2, q2, rfl, rfl, rfl, h2, r2⟩ := trodAll_cons r1
  obtain ⟨rfl, rfl, rfl⟩ := trodAll_nil r2
  obtain rfl : args = #[v0, v1, v2] := by cases args; simp_all
  obtain ⟨rfl, rfl⟩ := trodVars_none hV
  obtain ⟨a0, len0, cap0, rfl⟩ := okWide_slice Try.underlying22 (hval 0 22 v0 rfl rfl)
  have k0 := h0
  have lt0 : ∀ x ∈ p0, x.block < W.heap.size := by obtain ⟨m, hm⟩ := k0; exact DataW.trod_lt m _ _ _ hm
  obtain ⟨z0, w0⟩ : ∃ zs, IsRow .u8 W a0 len0 cap0 zs := by
    obtain ⟨fuel, hf⟩ := h0
    rcases open_ints Try.underlying22 Try.underlying5 (by kernel_rfl) hf with ⟨hcs, _⟩ | ⟨x, l, c, zs, hcs, _, hl, hm, hz, _, hcell, hwz⟩
    · simp [Value.cells] at hcs
      obtain ⟨rfl, rfl, rfl⟩ := hcs
      exact ⟨[], .inl ⟨rfl, rfl, rfl, rfl⟩⟩
    · simp [Value.cells] at hcs
      obtain ⟨rfl, rfl, rfl⟩ := hcs
      exact ⟨zs, .inr ⟨_, rfl, hl, hm, by simpa using hz, hcell, hwz⟩⟩
  obtain ⟨a1, rfl, rfl, rfl, w1⟩ := open_int Try.underlying5 (hval 1 5 v1 rfl rfl) h1
  obtain ⟨a2, len2, cap2, rfl⟩ := okWide_slice Try.underlying22 (hval 2 22 v2 rfl rfl)
  have k2 := h2
  have lt2 : ∀ x ∈ p2, x.block < W.heap.size := by obtain ⟨m, hm⟩ := k2; exact DataW.trod_lt m _ _ _ hm
  obtain ⟨z2, w2⟩ : ∃ zs, IsRow .u8 W a2 len2 cap2 zs := by
    obtain ⟨fuel, hf⟩ := h2
    rcases open_ints Try.underlying22 Try.underlying5 (by kernel_rfl) hf with ⟨hcs, _⟩ | ⟨x, l, c, zs, hcs, _, hl, hm, hz, _, hcell, hwz⟩
    · simp [Value.cells] at hcs
      obtain ⟨rfl, rfl, rfl⟩ := hcs
      exact ⟨[], .inl ⟨rfl, rfl, rfl, rfl⟩⟩
    · simp [Value.cells] at hcs
      obtain ⟨rfl, rfl, rfl⟩ := hcs
      exact ⟨zs, .inr ⟨_, rfl, hl, hm, by simpa using hz, hcell, hwz⟩⟩
  clear hA0 hval0
  refine (walk a0 len0 cap0 z0 a1 a2 len2 cap2 z2 W w0 w1 w2).mono fun e W' ⟨he, bel⟩ => ?_
  subst he
  exact ⟨_, rfl, _, _, _, [], _, [], hW', trodAll_mk1 (shut_bool Try.underlying4 _), (trodAll_cons_mk (Below.trod laidOut (by kernel_rfl) (of_decide_eq_true (by kernel_rfl)) k0 bel lt0) (trodAll_cons_mk (shut_int Try.underlying5 w1) (trodAll_cons_mk (Below.trod laidOut (by kernel_rfl) (of_decide_eq_true (by kernel_rfl)) k2 bel lt2) trodAll_mk0))), rfl, bel.frame _, fun h => by cases h⟩

theorem over : Rows.viableFirstRow.holds Try.pinned (OpenSpec.ofChange Rows.viableFirstSpec) :=
  OpenClaim.holds_of_wide 5 Try.f5 rfl rfl rfl rfl rfl rfl rfl ⟨rfl, rfl, rfl, rfl, rfl⟩ rfl rfl rfl rfl rfl (by kernel_rfl) Try.func5 (by kernel_rfl)
    (of_decide_eq_true (by kernel_rfl)) (by unfold Func.isWrapper; first | (rw [if_pos (by decide +kernel)]; kernel_rfl) | (rw [if_neg (by decide +kernel)]; exact ⟨rfl, rfl⟩))
    (fun os started H enc _ => lifted os started H enc)

theorem proved : Rows.ViableFirstSaid := over
end Go.Proofs.Ytefbgocaoillkaa.viableFirst

/-
  when time goes by no block may lead on that might not ahead (ViableLater is true of every input).
-/
import Derived.Test.YtefbgocaoillkaaRows

import Derived.WalkKit

import Derived.Below

import Derived.ProofKit

import Derived.OpenShut

import Derived.ShutString

import Derived.ChangeOld

import Derived.Test.YtefbgocaoillkaaVbRange

namespace Go.Proofs.Ytefbgocaoillkaa.viableLater

open Go.ChangeShapes Go.WideShapes Go.ChangeAt Go.RowKit

set_option linter.unusedVariables false

theorem own : ownKnob Try.prog.godebug = none := by kernel_rfl
theorem laidOut : laidOutB Try.prog = true := by kernel_rfl
theorem cells4 : Try.prog.cellsOf 4 = 1 := by kernel_rfl
theorem cells5 : Try.prog.cellsOf 5 = 1 := by kernel_rfl
theorem cells22 : Try.prog.cellsOf 22 = 1 := by kernel_rfl

set_option maxRecDepth 100000 in
set_option maxHeartbeats 8000000 in
set_option maxRecDepth 100000 in
theorem walk (a0 : Option Addr) (len0 cap0 : Nat) (z0 : List Int) (a1 : Int) (a2 : Int) (a3 : Option Addr) (len3 cap3 : Nat) (z3 : List Int) (w : World) (w0 : IsRow .u8 w a0 len0 cap0 z0) (w1 : (Lit.int .u8 a1).wf = true) (w2 : (Lit.int .u8 a2).wf = true) (w3 : IsRow .u8 w a3 len3 cap3 z3) :
    Calls Try.prog 7 #[.slice a0 len0 cap0, .int .u8 a1, .int .u8 a2, .slice a3 len3 cap3] w fun e w' => e = .returned (.bool true) ∧ Below w.heap.size w w' := by
  have HNR := hide w0.row
  have HNU := hide w0.u8
  clear w0
  have hj := wf_u8e w1
  have hn := wf_u8e w2
  clear w1 w2
  have HSR := hide w3.row
  have HSU := hide w3.u8
  clear w3
  go_enter Try.func7, Try.ntmps7
  go_wp2_with fail
  refine (vawake_any _).mono ?_
  rintro e V1 ⟨rfl, hbel⟩
  have HB1 := hide hbel
  clear hbel
  have HMD := hide (made_any _ _ _ _ V1 (HNR.out.below HB1.out) HNU.out)
  go_wp2_with fail
  refine HMD.out.mono ?_
  rintro e V ⟨p, sv, bs, ms, i, rfl, hM, hNb, hi3, hMo, hbel⟩
  obtain ⟨a, c, rfl, hrow⟩ := hM.row
  obtain ⟨m, hm⟩ : ∃ m, Hid (ms.length = m) := ⟨_, rfl⟩
  rw [hm.out] at hM hrow ⊢
  have HT := hide hM.tree
  have HN := hide hrow
  have HK := hide hNb
  have HMo := hide hMo
  have HB := hide (HB1.out.trans (hbel.mono HB1.out.size))
  have hml := hide (show m = bs.length by rw [← hm.out]; exact hMo.len)
  have hmi := hide (show m = i + 1 by rw [hml.out]; exact hNb.len)
  have hm1 : 1 ≤ m := by have := hmi.out; omega
  have hm31 : m ≤ 31 := by have := hmi.out; omega
  have hms := hide (fun j (hj : j < m) => show U64 (nd ms j).root by rw [hMo.root j (by rw [← hml.out]; exact hj)]; exact hNb.ok.root j (by rw [← hml.out]; exact hj))
  have hfirst := hide (show (nd ms 0).root = (tb bs 0).root from hMo.root 0 (by have := hml.out; omega))
  clear hM hrow hNb hMo hbel HMD HNR HNU HB1 hm
  have hfr : U64 (tb bs 0).root := HK.out.ok.root 0 (by have := hml.out; omega)
  have HVW := hide (view_any ms a m c _ _ _ _ a1 0 a2 V HN.out ⟨by omega, by omega⟩ (HSR.out.below HB.out) HSU.out hj (by omega) hn hms.out)
  rw [Int.zero_emod, show (0 : Int).toNat = 0 from rfl, hfirst.out] at HVW
  obtain ⟨fr, hfrr⟩ : ∃ x, Hid ((tb bs 0).root = x) := ⟨_, rfl⟩
  obtain ⟨je, hje⟩ : ∃ x, Hid (a1 % 6 = x) := ⟨_, rfl⟩
  obtain ⟨ep, hepp⟩ : ∃ x, Hid (a2 % 9 = x) := ⟨_, rfl⟩
  have hep : 0 ≤ ep ∧ ep ≤ 8 := by rw [← hepp.out]; omega
  rw [hfrr.out] at hfr HVW
  rw [hje.out, hepp.out] at HVW
  go_upto_region 7 with (go_at_call 10; refine HVW.out.mono ?_; rintro e V2 ⟨b, n, f, rfl, hS, hf, hb, hbel⟩; have HS := hide hS; have HF := hide hf; have HBV := hide hbel; clear hS hf hb hbel)
  have HX := hide ((OAt.new V2 (vwO je 1 0 fr ep (.map (some b)))).alloc (vwO je 1 0 fr (ep + 1) (.map (some b))))
  have HY := hide (OAt.new (V2.alloc (vwO je 1 0 fr ep (.map (some b)))) (vwO je 1 0 fr (ep + 1) (.map (some b))))
  have hbel0 := (below_alloc V2 (vwO je 1 0 fr ep (.map (some b)))).alloc (by simp) (vwO je 1 0 fr (ep + 1) (.map (some b)))
  have hbel := HBV.out.trans (Below.mono hbel0 HBV.out.size)
  replace HT := hide (HT.out.below hbel)
  replace HB := hide (HB.out.trans (hbel.mono HB.out.size))
  have HSA := hide (SrcAt.below (.inr ⟨b, n, rfl, HS.out⟩ : SrcAt V2 (.map (some b)) f) hbel0)
  clear hbel hbel0 HBV HS HVW hj hn HSR HSU HN hms HMo
  rw [World.size_alloc] at HY
  generalize (V2.alloc (vwO je 1 0 fr ep (.map (some b)))).alloc (vwO je 1 0 fr (ep + 1) (.map (some b))) = V3 at HX HY HT HB HSA ⊢
  generalize V2.heap.size = gx at HX HY ⊢
  have hwa := hide (fun r => Nat.le_trans (HF.out r) (show 6 ≤ 4294967296 by omega))
  have HV1 := hide (fun w' (h : Below V3.heap.size V3 w') => via_any bs _ p je 1 0 fr ep (.map (some b)) f w' (HT.out.below h) HK.out.ok hfr (by unfold I64; omega) (HSA.out.below h) hwa.out)
  have HV2 := hide (fun w' (h : Below V3.heap.size V3 w') => via_any bs _ p je 1 0 fr (ep + 1) (.map (some b)) f w' (HT.out.below h) HK.out.ok hfr (by unfold I64; omega) (HSA.out.below h) hwa.out)
  have hmono := hide (fun x (h : okV bs je fr (ep + 1) f x = true) => show okV bs je fr ep f x = true by
    unfold okV agB at h ⊢
    simp only [Bool.and_eq_true, Bool.or_eq_true, decide_eq_true_eq] at h ⊢
    refine ⟨?_, h.2⟩
    rcases h.1 with h1 | h1 | h1
    · exact .inl h1
    · exact .inr (.inl h1)
    · exact .inr (.inr (by omega)))
  generalize okV bs je fr ep f = oka at HV1 hmono
  generalize okV bs je fr (ep + 1) f = okb at HV2 hmono
  have hxs : Hid (∀ w', Below V3.heap.size V3 w' → w'.cell? ⟨gx, 0, none⟩ = some (.int .i64 je) ∧ w'.cell? ⟨gx, 1, none⟩ = some (.int .u64 1) ∧ w'.cell? ⟨gx, 2, none⟩ = some (.int .i64 0) ∧ w'.cell? ⟨gx, 3, none⟩ = some (.int .u64 fr) ∧ w'.cell? ⟨gx, 4, none⟩ = some (.int .i64 ep) ∧ w'.cell? ⟨gx, 5, none⟩ = some (.map (some b))) := hide fun w' h => by
    have := HX.out.below h
    exact ⟨this.cell 0, this.cell 1, this.cell 2, this.cell 3, this.cell 4, this.cell 5⟩
  have hys : Hid (∀ w', Below V3.heap.size V3 w' → w'.cell? ⟨gx + 1, 0, none⟩ = some (.int .i64 je) ∧ w'.cell? ⟨gx + 1, 1, none⟩ = some (.int .u64 1) ∧ w'.cell? ⟨gx + 1, 2, none⟩ = some (.int .i64 0) ∧ w'.cell? ⟨gx + 1, 3, none⟩ = some (.int .u64 fr) ∧ w'.cell? ⟨gx + 1, 4, none⟩ = some (.int .i64 (ep + 1)) ∧ w'.cell? ⟨gx + 1, 5, none⟩ = some (.map (some b))) := hide fun w' h => by
    have := HY.out.below h
    exact ⟨this.cell 0, this.cell 1, this.cell 2, this.cell 3, this.cell 4, this.cell 5⟩
  have HB0 : Hid (Below V3.heap.size V3 V3.drew) := hide (Below.refl _ _).drew
  refine wp_region_noPanic ?_
  refine wp_region_held_drew (S := fun w' => Below V3.heap.size V3 w') (by kernel_rfl) HB0.out (fun hHeld => ?_)
  generalize V3.drew = w0 at HB0 hHeld ⊢
  refine take_set (i := 0) (v := .pointer (some ⟨p, 0, none⟩)) rfl rfl (by kernel_rfl) (by kernel_rfl) (by kernel_rfl) (fun _ _ _ h => h) (Or.inl ⟨by kernel_rfl, fun w' hSw => ?_⟩) hHeld ?_
  · go_simp
  simp only [List.set_cons_succ, List.set_cons_zero]
  refine take_set (i := 1) (v := .agg (vwC je 1 0 fr ep (.map (some b)))) rfl rfl (by kernel_rfl) (by kernel_rfl) (by kernel_rfl) (fun _ _ _ h => h) (Or.inl ⟨by kernel_rfl, fun w' hSw => ?_⟩) hHeld ?_
  · have hl := hxs.out w' hSw; go_simp
  simp only [List.set_cons_succ, List.set_cons_zero]
  refine take_set (i := 3) (v := .pointer (some ⟨p, 0, none⟩)) rfl rfl (by kernel_rfl) (by kernel_rfl) (by kernel_rfl) (fun _ _ _ h => h) (Or.inl ⟨by kernel_rfl, fun w' hSw => ?_⟩) hHeld ?_
  · go_simp
  simp only [List.set_cons_succ, List.set_cons_zero]
  refine take_set (i := 4) (v := .agg (vwC je 1 0 fr (ep + 1) (.map (some b)))) rfl rfl (by kernel_rfl) (by kernel_rfl) (by kernel_rfl) (fun _ _ _ h => h) (Or.inl ⟨by kernel_rfl, fun w' hSw => ?_⟩) hHeld ?_
  · have hl := hys.out w' hSw; go_simp
  simp only [List.set_cons_succ, List.set_cons_zero]
  refine wpAnyH_ready (rs := [2]) (by kernel_rfl) (by simp) ?_
  refine AllReadyH.cons (o := _) rfl (fun K hK => ?_) AllReadyH.nil
  go_simp
  refine (HV1.out _ HB0.out).mono ?_
  rintro e wq1 ⟨am, rfl, hM, ham, hbel⟩
  have HM1 := hide hM
  have HB1 := hide (HB0.out.trans (hbel.mono HB0.out.size))
  clear hM ham hbel
  refine hK.out _ _ (HB1.out) (fun hHeld => ?_)
  clear hK K
  refine wpAnyH_ready (rs := [5]) (by kernel_rfl) (by simp) ?_
  refine AllReadyH.cons (o := _) rfl (fun K hK => ?_) AllReadyH.nil
  go_simp
  refine (HV2.out _ HB1.out).mono ?_
  rintro e wq2 ⟨bm, rfl, hM, hbm, hbel⟩
  have HM2 := hide hM
  have HB2 := hide (HB1.out.trans (hbel.mono HB1.out.size))
  replace HM1 := hide (HM1.out.below hbel)
  clear hM hbm hbel
  refine hK.out _ _ (HB2.out) (fun hHeld => ?_)
  clear hK K
  refine take_set (i := 6) (v := .map (some am)) rfl rfl (by kernel_rfl) (by kernel_rfl) (by kernel_rfl) (fun _ _ _ h => h) (Or.inl ⟨by kernel_rfl, fun w' hSw => ?_⟩) hHeld ?_
  · go_simp
  simp only [List.set_cons_succ, List.set_cons_zero]
  refine take_set (i := 7) (v := .map (some bm)) rfl rfl (by kernel_rfl) (by kernel_rfl) (by kernel_rfl) (fun _ _ _ h => h) (Or.inl ⟨by kernel_rfl, fun w' hSw => ?_⟩) hHeld ?_
  · go_simp
  simp only [List.set_cons_succ, List.set_cons_zero]
  refine wpAnyH_done (by kernel_rfl) ?_ _
  refine NoPanic.normal ?_
  have HBE := hide (HB.out.trans (HB2.out.mono HB.out.size))
  clear HV1 HV2 HB HB0 HB1 HB2 HT HX HY HSA hxs hys
  obtain ⟨D, hD, hfD, hkD⟩ := HM2.out
  have HD := hide hD
  have HFD := hide (fun r => (hfD r).1)
  have c1 := hide (fun w' (h : Below wq2.heap.size wq2 w') (ty : TypeId) => (HM1.out.below h).count HK.out.ok ty)
  have c2 := hide (fun w' (h : Below wq2.heap.size wq2 w') (ty : TypeId) => (HM2.out.below h).count HK.out.ok ty)
  have hle := mayL_mono (bs := bs) hmono.out bs.length
  generalize (mayL bs oka bs.length).length = NA at c1 hle
  generalize (mayL bs okb bs.length).length = NB at c2 hle
  have HTD := hide (fun kl (h : Maps.has D kl = true) => show D.atKey kl (.lit (.bool false)) = .lit (.bool true) by
    obtain ⟨r, rfl⟩ := hkD kl h
    rw [(hfD r).2, ← (hfD r).1, h])
  clear hD hfD hkD hHeld
  obtain ⟨W, hW⟩ : ∃ x, x = wq2 := ⟨_, rfl⟩
  subst hW
  go_upto_region 9 with (at_range; refine wpList_range_own _ rfl _ 36 rfl 29 4 keyU Try.underlying36 _ bm bs.length D rfl HD.out ?_; intro w0 hrg0 hg0 hs0)
  go_frame
  obtain ⟨it, hit⟩ : ∃ it, Hid (W.heap.size = it) := ⟨_, rfl⟩
  rw [hit.out] at hrg0 ⊢
  have HBR := hide ((Below.refl W.heap.size W).grown hg0 (Nat.le_refl _) (fun j hj => by cases hj))
  have HR0 := hide hrg0
  clear hg0 hs0 hrg0
  go_loopw [15] (fun x wr => ∃ (left : Lit → Bool) (cnt : Nat), Hid (wr.ranges Try.prog 29 (plainElem Try.prog 4) bm it bs.length D left cnt ∧ (∀ kl, left kl = true → Maps.has D kl = true) ∧ Below W.heap.size W wr)) (fun _ wr => wr.rangeLeft bm it)
  case atStart => exact ⟨_, _, hide ⟨HR0.out, fun _ h => h, HBR.out⟩⟩
  case round =>
    clear HR0 HBR
    obtain ⟨left, cnt, hI⟩ := hrel
    obtain ⟨hrg, hz, hb⟩ := hI.out
    have HZ := hide hz
    have HB := hide hb
    clear hI hz hb
    go_wp2_with (first
      | (at_next; refine wpList_next_B _ rfl _ rfl bm it bs.length D left cnt rfl hrg (fun kl h => HTD.out kl (HZ.out kl h)) ?_ ?_)
      | fail)
    · intro _
      have k1 := c1.out wr HB.out
      have k2 := c2.out wr HB.out
      have HE := hide (HBE.out.trans (HB.out.mono HBE.out.size))
      have hli : (NB : Int) ≤ (NA : Int) := by omega
      clear hrg HZ c1 c2 HM1 HM2 HD HFD
      go_wp2
      go_ret
      exact ⟨by simp, HE.out⟩
    · intro x w2 cnt1 hxu hlk hrg1 hlt hg1 hs1 hen
      have hin := HZ.out _ hlk
      rw [HFD.out] at hin
      have hlr := ldR_mono (bs := bs) hmono.out hin
      have HB2 := hide (HB.out.grown hg1 HB.out.size (fun j hj => by cases hj; have := hit.out; omega))
      have hl := (HM1.out.below HB2.out).look x hxu
      rw [hlr] at hl
      have HR1 := hide hrg1
      have HZ2 := hide (fun kl (h : (left kl && !kl.sameKey (.int .u64 x)) = true) => HZ.out kl (by simp only [Bool.and_eq_true] at h; exact h.1))
      have hm := hide (show w2.rangeLeft bm it < wr.rangeLeft bm it by rw [hrg1.left_eq, hrg.left_eq]; exact hlt)
      clear hrg hrg1 hlt hg1 hs1 hlk HZ hin hlr HB
      go_wp2
      go_roundw
      case rel => exact ⟨_, cnt1, hide ⟨HR1.out, HZ2.out, HB2.out⟩⟩
      case measure => exact hm.out

set_option maxRecDepth 100000 in
theorem lifted (os : Os) (started : os.Started) (H : Type) (enc : TypeId × Value → H) :
    ReturnsInHanded {} Try.checked os 7 .any (Rows.viableLaterSpec.pre6 enc Try.prog Try.f7 Rows.viableLaterRow.domain false) (Rows.viableLaterSpec.post enc Try.prog Try.f7 false true false false) := by
  refine returnsInHanded_of_change (C := Try.checked) own started (by kernel_rfl) Try.func7
    (ChangeSpec.witness6 (enc := enc) (C := Try.checked) false ⟨#[], #[.slice none 0 0, .int .u8 0, .int .u8 0, .slice none 0 0], []⟩ 8 (by kernel_rfl) (by kernel_rfl) (by kernel_rfl) (by kernel_rfl)) ?_
  intro W base args ds gs before hval0 hW hcnd _
  have hval : ∀ (j : Nat) t v, Try.f7.params[j]? = some t → args[j]? = some v → Value.okWide Try.prog W .any base t v := hval0
  have hW' := hW
  obtain ⟨p, q, hA0, hV, rfl, hfz, hnd⟩ := hW
  have hA : DataW.TrodAll enc Try.prog W 0 (fun _ => true) true Try.f7.params.toList args.toList ds p := hA0
  rw [Try.params7] at hA hval
  obtain ⟨v0, vs0, d0, ds0, p0, q0, hargs, rfl, rfl, h0, r0⟩ := trodAll_cons hA
  obtain ⟨v1, vs1, d1, ds1, p1, q1, rfl, rfl, rfl, h1, r1⟩ := trodAll_cons r0
  obtain ⟨v2, vs2, d2, ds2, p2, q2, rfl, rfl, rfl, h2, r2⟩ := trodAll_cons r1
  obtain ⟨v3, vs3, d3, ds3, p3, q3, rfl, rfl, rfl, h3, r3⟩ := trodAll_cons r2
  obtain ⟨rfl, rfl, rfl⟩ := trodAll_nil r3
  obtain rfl : args = #[v0, v1, v2, v3] := by cases args; simp_all
  obtain ⟨rfl, rfl⟩ := trodVars_none hV
  obtain ⟨a0, len0, cap0, rfl⟩ := okWide_slice Try.underlying22 (hval 0 22 v0 rfl rfl)
  have k0 := h0
  have lt0 : ∀ x ∈ p0, x.block < W.heap.size := by obtain ⟨m, hm⟩ := k0; exact DataW.trod_lt m _ _ _ hm
  obtain ⟨z0, w0⟩ : ∃ zs, IsRow .u8 W a0 len0 cap0 zs := by
    obtain ⟨fuel, hf⟩ := h0
    rcases open_ints Try.underlying22 Try.underlying5 (by kernel_rfl) hf with ⟨hcs, _⟩ | ⟨x, l, c, zs, hcs, _, hl, hm, hz, _, hcell, hwz⟩
    · simp [Value.cells] at hcs
      obtain ⟨rfl, rfl, rfl⟩ := hcs
      exact ⟨[], .inl ⟨rfl, rfl, rfl, rfl⟩⟩
    · simp [Value.cells] at hcs
      obtain ⟨rfl, rfl, rfl⟩ := hcs
      exact ⟨zs, .inr ⟨_, rfl, hl, hm, by simpa using hz, hcell, hwz⟩⟩
  obtain ⟨a1, rfl, rfl, rfl, w1⟩ := open_int Try.underlying5 (hval 1 5 v1 rfl rfl) h1
  obtain ⟨a2, rfl, rfl, rfl, w2⟩ := open_int Try.underlying5 (hval 2 5 v2 rfl rfl) h2
  obtain ⟨a3, len3, cap3, rfl⟩ := okWide_slice Try.underlying22 (hval 3 22 v3 rfl rfl)
  have k3 := h3
  have lt3 : ∀ x ∈ p3, x.block < W.heap.size := by obtain ⟨m, hm⟩ := k3; exact DataW.trod_lt m _ _ _ hm
  obtain ⟨z3, w3⟩ : ∃ zs, IsRow .u8 W a3 len3 cap3 zs := by
    obtain ⟨fuel, hf⟩ := h3
    rcases open_ints Try.underlying22 Try.underlying5 (by kernel_rfl) hf with ⟨hcs, _⟩ | ⟨x, l, c, zs, hcs, _, hl, hm, hz, _, hcell, hwz⟩
    · simp [Value.cells] at hcs
      obtain ⟨rfl, rfl, rfl⟩ := hcs
      exact ⟨[], .inl ⟨rfl, rfl, rfl, rfl⟩⟩
    · simp [Value.cells] at hcs
      obtain ⟨rfl, rfl, rfl⟩ := hcs
      exact ⟨zs, .inr ⟨_, rfl, hl, hm, by simpa using hz, hcell, hwz⟩⟩
  clear hA0 hval0
  refine (walk a0 len0 cap0 z0 a1 a2 a3 len3 cap3 z3 W w0 w1 w2 w3).mono fun e W' ⟨he, bel⟩ => ?_
  subst he
  exact ⟨_, rfl, _, _, _, [], _, [], hW', trodAll_mk1 (shut_bool Try.underlying4 _), (trodAll_cons_mk (Below.trod laidOut (by kernel_rfl) (of_decide_eq_true (by kernel_rfl)) k0 bel lt0) (trodAll_cons_mk (shut_int Try.underlying5 w1) (trodAll_cons_mk (shut_int Try.underlying5 w2) (trodAll_cons_mk (Below.trod laidOut (by kernel_rfl) (of_decide_eq_true (by kernel_rfl)) k3 bel lt3) trodAll_mk0)))), rfl, bel.frame _, fun h => by cases h⟩

theorem over : Rows.viableLaterRow.holds Try.pinned (OpenSpec.ofChange Rows.viableLaterSpec) :=
  OpenClaim.holds_of_wide 7 Try.f7 rfl rfl rfl rfl rfl rfl rfl ⟨rfl, rfl, rfl, rfl, rfl⟩ rfl rfl rfl rfl rfl (by kernel_rfl) Try.func7 (by kernel_rfl)
    (of_decide_eq_true (by kernel_rfl)) (by unfold Func.isWrapper; first | (rw [if_pos (by decide +kernel)]; kernel_rfl) | (rw [if_neg (by decide +kernel)]; exact ⟨rfl, rfl⟩))
    (fun os started H enc _ => lifted os started H enc)

theorem proved : Rows.ViableLaterSaid := over
end Go.Proofs.Ytefbgocaoillkaa.viableLater

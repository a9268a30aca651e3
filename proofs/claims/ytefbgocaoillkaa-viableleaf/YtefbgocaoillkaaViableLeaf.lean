/-
  in a tree all of whose blocks have one source all may lead on, or none (ViableLeaf is true of every input).
-/
import Derived.Test.YtefbgocaoillkaaRows

import Derived.WalkKit

import Derived.Below

import Derived.ProofKit

import Derived.OpenShut

import Derived.ShutString

import Derived.ChangeOld

import Derived.Test.YtefbgocaoillkaaVbAwake

namespace Go.Proofs.Ytefbgocaoillkaa.viableLeaf

open Go.ChangeShapes Go.WideShapes Go.ChangeAt Go.RowKit

set_option linter.unusedVariables false

theorem own : ownKnob Try.prog.godebug = none := by kernel_rfl
theorem laidOut : laidOutB Try.prog = true := by kernel_rfl
theorem cells4 : Try.prog.cellsOf 4 = 1 := by kernel_rfl
theorem cells5 : Try.prog.cellsOf 5 = 1 := by kernel_rfl
theorem cells22 : Try.prog.cellsOf 22 = 1 := by kernel_rfl

set_option maxRecDepth 100000 in
set_option maxHeartbeats 8000000 in
set_option maxRecDepth 100000 in
theorem walk (a0 : Option Addr) (len0 cap0 : Nat) (z0 : List Int) (a1 : Int) (a2 : Int) (a3 : Int) (w : World) (w0 : IsRow .u8 w a0 len0 cap0 z0) (w1 : (Lit.int .u8 a1).wf = true) (w2 : (Lit.int .u8 a2).wf = true) (w3 : (Lit.int .u8 a3).wf = true) :
    Calls Try.prog 6 #[.slice a0 len0 cap0, .int .u8 a1, .int .u8 a2, .int .u8 a3] w fun e w' => e = .returned (.bool true) ∧ Below w.heap.size w w' := by
  have HNR := hide w0.row
  have HNU := hide w0.u8
  clear w0
  have hso := wf_u8e w1
  have hn := wf_u8e w2
  have hj := wf_u8e w3
  clear w1 w2 w3
  go_enter Try.func6, Try.ntmps6
  go_wp2_with fail
  refine (vawake_any _).mono ?_
  rintro e V1 ⟨rfl, hbel⟩
  have HB1 := hide hbel
  clear hbel
  have HMD := hide (made_any _ _ _ _ V1 (HNR.out.below HB1.out) HNU.out)
  go_wp2_with fail
  refine HMD.out.mono ?_
  rintro e V ⟨p, sv, bs, ms, i, rfl, hM, hNb, hi3, hMo, hbel⟩
  obtain ⟨a, c, rfl, hrow⟩ := hM.row
  obtain ⟨m, hm⟩ : ∃ m, Hid (ms.length = m) := ⟨_, rfl⟩
  rw [hm.out] at hM hrow ⊢
  have HT := hide hM.tree
  have HN := hide hrow
  have HK := hide hNb
  have HMo := hide hMo
  have HB := hide (HB1.out.trans (hbel.mono HB1.out.size))
  have hml := hide (show m = bs.length by rw [← hm.out]; exact hMo.len)
  have hmi := hide (show m = i + 1 by rw [hml.out]; exact hNb.len)
  have hm1 : 1 ≤ m := by have := hmi.out; omega
  have hm31 : m ≤ 31 := by have := hmi.out; omega
  have hms := hide (fun j (hj : j < m) => show U64 (nd ms j).root by rw [hMo.root j (by rw [← hml.out]; exact hj)]; exact hNb.ok.root j (by rw [← hml.out]; exact hj))
  have hfirst := hide (show (nd ms 0).root = (tb bs 0).root from hMo.root 0 (by have := hml.out; omega))
  clear hM hrow hNb hMo hbel HMD HNR HNU HB1 hm
  have hmm := @run_makeMap Try.prog
  obtain ⟨je, hje⟩ : ∃ x, Hid (a3 % 9 = x) := ⟨_, rfl⟩
  obtain ⟨ep, hepp⟩ : ∃ x, Hid (a2 % 9 = x) := ⟨_, rfl⟩
  have hjb : 0 ≤ je ∧ je ≤ 8 := by rw [← hje.out]; omega
  have hep : 0 ≤ ep ∧ ep ≤ 8 := by rw [← hepp.out]; omega
  obtain ⟨s, hs9⟩ : ∃ s : Nat, a1 % 9 = (s : Int) := ⟨(a1 % 9).toNat, by omega⟩
  have hsb : s ≤ 8 := by omega
  have hs7 : a1.tmod 9 = (s : Int) := by rw [Int.tmod_eq_emod_of_nonneg hso.1]; exact hs9
  have hs8 : IntKind.i64.wrap (s : Int) = (s : Int) := by simp [IntKind.wrap, IntKind.bits, IntKind.signed]; omega
  go_upto_region 5 with fail
  rw [hje.out, hepp.out]
  have HM := hide (MapP.new V)
  have HX := hide (OAt.new (V.alloc (.map #[] 0)) (vwO je 1 0 1 ep (.map (some V.heap.size))))
  have hbel := (below_alloc V (.map #[] 0)).alloc (by simp) (vwO je 1 0 1 ep (.map (some V.heap.size)))
  replace HM := hide (HM.out.of ((below_alloc _ (vwO je 1 0 1 ep (.map (some V.heap.size)))).block _ (by simp)))
  have HBV := hide hbel
  clear hbel
  rw [World.size_alloc] at HX
  generalize (V.alloc (.map #[] 0)).alloc (vwO je 1 0 1 ep (.map (some V.heap.size))) = V2 at HM HX HBV ⊢
  obtain ⟨mb, hmb⟩ : ∃ x, Hid (V.heap.size = x) := ⟨_, rfl⟩
  rw [hmb.out] at HM HX ⊢
  obtain ⟨gx, hgx⟩ : ∃ x, Hid (mb + 1 = x) := ⟨_, rfl⟩
  rw [hgx.out] at HX ⊢
  clear hmm
  go_wp2
  go_loopw [36] (fun iv wr => ∃ k : Nat, iv = .int .i64 (k : Int) ∧ k ≤ m ∧ Hid (∃ f, MapP wr mb k f ∧ (∀ j, j < k → f (tb bs j).root = some s) ∧ (∀ r, (f r).getD 0 ≤ 8) ∧ OAt wr gx (vwO je 1 0 1 ep (.map (some mb))) ∧ Below V.heap.size V wr)) (fun iv _ => m - (intOf iv).toNat)
  case atStart => exact ⟨0, rfl, Nat.zero_le _, hide ⟨_, HM.out, fun j h => by omega, fun _ => Nat.zero_le _, HX.out, HBV.out⟩⟩
  case round =>
    clear HM HX HBV
    obtain ⟨k, rfl, hkm, hI⟩ := hrel
    obtain ⟨f, h1, h2, h3, h4, h5⟩ := hI.out
    have HM := hide h1
    have HF := hide h2
    have HF8 := hide h3
    have HX := hide h4
    have HBV := hide h5
    clear hI h1 h2 h3 h4 h5
    by_cases hlt : k < m
    · obtain ⟨ng, no, rfl, hng, hcn⟩ := (HN.out.below HBV.out).2 (by omega)
      have h4 := hcn k hlt
      have hkb : k < bs.length := by have := hml.out; omega
      have hroot := hide (HMo.out.root k hkb)
      have hru := HK.out.ok.root k hkb
      obtain ⟨nx, hnx⟩ : ∃ nx, Hid (nd ms k = nx) := ⟨_, rfl⟩
      rw [hnx.out] at h4 hroot
      have LD := hide (node_load h4)
      have ST := hide (node_store wr nx)
      have HN1 := hide (OAt.new wr (.cells #[.int .u64 nx.root, .int .u64 nx.par, .int .i64 nx.slot] 39))
      have HX1 := hide (HX.out.alloc (.cells #[.int .u64 nx.root, .int .u64 nx.par, .int .i64 nx.slot] 39))
      have HM1 := hide (HM.out.of ((below_alloc wr (.cells #[.int .u64 nx.root, .int .u64 nx.par, .int .i64 nx.slot] 39)).block mb HM.out.lt))
      have HB1 := hide (HBV.out.alloc HBV.out.size (.cells #[.int .u64 nx.root, .int .u64 nx.par, .int .i64 nx.slot] 39))
      have hki : (k : Int) < (m : Int) := by omega
      clear hcn h4
      go_upto_region 8 with (first
        | (refine wpList_load_at 39 (.tmp 38) rfl rfl (.pointer (some ⟨ng, no + k * 3, none⟩)) rfl (.agg _) LD.out ?_)
        | (refine wpList_store_at 39 (.tmp 13) (.tmp 39) rfl rfl (.pointer (some ⟨wr.heap.size, 0, none⟩)) (.agg _) rfl rfl _ ST.out ?_))
      clear LD ST
      generalize wr.alloc (.cells #[.int .u64 nx.root, .int .u64 nx.par, .int .i64 nx.slot] 39) = wa at HN1 HX1 HM1 HB1 ⊢
      generalize wr.heap.size = nb at HN1 ⊢
      obtain ⟨N0, N1, N2⟩ := nx
      replace hroot : N0 = (tb bs k).root := hroot.out
      replace HN1 : Hid (OAt wa nb (.cells #[.int .u64 N0, .int .u64 N1, .int .i64 N2] 39)) := HN1
      rw [hroot] at HN1
      clear hroot
      obtain ⟨R, hR⟩ : ∃ R, Hid ((tb bs k).root = R) := ⟨_, rfl⟩
      rw [hR.out] at hru HN1
      have q0 := HN1.out.cell 0
      have q5 := HX1.out.cell 5
      simp only [List.getElem?_toArray, List.getElem?_cons_zero, List.getElem?_cons_succ] at q0 q5
      obtain ⟨wq, hrun, hMN, hgr⟩ := HM1.out.put R s hru (by omega) (by unfold maxLen; omega)
      have ht : Turn (fun i => i = mb) wa wq := Turn.mono (Turn.grown hgr) (fun i hi => by cases hi; rfl)
      have HM2 := hide hMN
      have HX2 := hide (HX1.out.turn ht (by have := hgx.out; omega))
      have HB2 := hide (HB1.out.trans (ht.below HB1.out.size (fun i hi => by have := hmb.out; omega)))
      clear ht hMN hgr
      go_wp2
      go_roundw
      case rel => exact ⟨k + 1, by go_num, by omega, hide ⟨_, HM2.out, fun j hj => by
        by_cases e : (tb bs j).root = R
        · simp [e]
        · have : j ≠ k := by rintro rfl; exact e hR.out
          simp only [if_neg e]
          exact HF.out j (by omega), fun r => by by_cases e : r = R <;> simp [e, hsb, HF8.out], HX2.out, HB2.out⟩⟩
      case measure => simp [intOf]; omega
    · have hkm2 : k = m := by omega
      have hkm3 : ¬ ((k : Int) < (m : Int)) := by omega
      obtain ⟨V3, rfl⟩ : ∃ x, x = wr := ⟨_, rfl⟩
      have h1r : (tb bs 0).root = 1 := HK.out.root 0 (by omega)
      have hu1 : U64 1 := by unfold U64; omega
      have HVI := hide (via_any bs _ p je 1 0 1 ep (.map (some mb)) f V3 (HT.out.below HBV.out) HK.out.ok hu1 (by unfold I64; omega) (.inr ⟨mb, k, rfl, HM.out⟩) (fun r => Nat.le_trans (HF8.out r) (by omega)))
      have hok := hide (fun t (ht : t < bs.length) (_ : lf bs t = true) => show okV bs je 1 ep f (tb bs t).root = agB je ep (s : Int) by
        unfold okV
        rw [HF.out t (by have := hml.out; omega), ← h1r, below_first HK.out.ok ht]
        simp)
      have hcnt : Hid ((agB je ep (s : Int) = true → (mayL bs (okV bs je 1 ep f) bs.length).length = m) ∧ (agB je ep (s : Int) = false → (mayL bs (okV bs je 1 ep f) bs.length).length = 0)) := hide ⟨fun h => by
        rw [mayL_all HK.out.ok (fun t ht hl => (hok.out t ht hl).trans h) _ (Nat.le_refl _), hml.out], fun h => mayL_none (fun t ht hl => (hok.out t ht hl).trans h) _⟩
      have hag : Hid (agB je ep (s : Int) = (decide (je = 0) || (decide ((s : Int) = je) || decide (ep ≤ (s : Int) + 2)))) := hide rfl
      generalize okV bs je 1 ep f = ok at HVI hcnt
      generalize agB je ep (s : Int) = B at hcnt hag
      have hsi : (0 : Int) ≤ (s : Int) ∧ (s : Int) ≤ 8 := by omega
      have x0 := HX.out.cell 0
      have x1 := HX.out.cell 1
      have x2 := HX.out.cell 2
      have x3 := HX.out.cell 3
      have x4 := HX.out.cell 4
      have x5 := HX.out.cell 5
      simp only [List.getElem?_toArray, List.getElem?_cons_zero, List.getElem?_cons_succ] at x0 x1 x2 x3 x4 x5
      have HBE := hide (HB.out.trans (HBV.out.mono HB.out.size))
      clear HM HF HF8 HX HBV HT HN HB HMo hms hok h1r
      obtain ⟨NN, hNN⟩ : ∃ NN, Hid ((mayL bs ok bs.length).length = NN) := ⟨_, rfl⟩
      rw [hNN.out] at hcnt
      have he1 := hje.out
      have he2 := hepp.out
      have hn1 : IntKind.i64.wrap je = je := by simp [IntKind.wrap, IntKind.bits, IntKind.signed]; omega
      have hn2 : IntKind.i64.wrap ep = ep := by simp [IntKind.wrap, IntKind.bits, IntKind.signed]; omega
      clear hje hepp
      cases B
      · have hN0 : NN = 0 := hcnt.out.2 rfl
        subst hN0
        have h := hag.out
        simp only [Bool.or_eq_false_iff, Eq.comm (a := false)] at h
        obtain ⟨h1, h2, h3⟩ := h
        have h4 : (je == 0) = false := by simpa using h1
        have h5 : ((s : Int) == je) = false := by simpa using h2
        clear hag hcnt
        go_wp2_with (go_at_call 11; refine HVI.out.mono ?_; rintro e V5 ⟨am, rfl, hM, ham, hb5⟩; have HE5 := hide (HBE.out.trans (hb5.mono HBE.out.size)); have c1 := fun ty => hM.count HK.out.ok ty; rw [hNN.out] at c1; clear hM ham hb5)
        go_ret
        exact ⟨by simp, HE5.out⟩
      · have hNm : NN = m := hcnt.out.1 rfl
        subst hNm
        have h := hag.out
        clear hag hcnt
        by_cases h1 : decide (je = 0) = true
        · have h4 : (je == 0) = true := by simpa using h1
          clear h
          go_wp2_with (go_at_call 11; refine HVI.out.mono ?_; rintro e V5 ⟨am, rfl, hM, ham, hb5⟩; have HE5 := hide (HBE.out.trans (hb5.mono HBE.out.size)); have c1 := fun ty => hM.count HK.out.ok ty; rw [hNN.out] at c1; clear hM ham hb5)
          go_ret
          exact ⟨by simp, HE5.out⟩
        · have h1 : decide (je = 0) = false := by simpa using h1
          have h4 : (je == 0) = false := by simpa using h1
          by_cases h2 : decide ((s : Int) = je) = true
          · have h5 : ((s : Int) == je) = true := by simpa using h2
            clear h
            go_wp2_with (go_at_call 11; refine HVI.out.mono ?_; rintro e V5 ⟨am, rfl, hM, ham, hb5⟩; have HE5 := hide (HBE.out.trans (hb5.mono HBE.out.size)); have c1 := fun ty => hM.count HK.out.ok ty; rw [hNN.out] at c1; clear hM ham hb5)
            go_ret
            exact ⟨by simp, HE5.out⟩
          · have h2 : decide ((s : Int) = je) = false := by simpa using h2
            have h5 : ((s : Int) == je) = false := by simpa using h2
            rw [h1, h2, Bool.false_or, Bool.false_or] at h
            replace h := h.symm
            go_wp2_with (go_at_call 11; refine HVI.out.mono ?_; rintro e V5 ⟨am, rfl, hM, ham, hb5⟩; have HE5 := hide (HBE.out.trans (hb5.mono HBE.out.size)); have c1 := fun ty => hM.count HK.out.ok ty; rw [hNN.out] at c1; clear hM ham hb5)
            go_ret
            exact ⟨by simp, HE5.out⟩

set_option maxRecDepth 100000 in
theorem lifted (os : Os) (started : os.Started) (H : Type) (enc : TypeId × Value → H) :
    ReturnsInHanded {} Try.checked os 6 .any (Rows.viableLeafSpec.pre6 enc Try.prog Try.f6 Rows.viableLeafRow.domain false) (Rows.viableLeafSpec.post enc Try.prog Try.f6 false true false false) := by
  refine returnsInHanded_of_change (C := Try.checked) own started (by kernel_rfl) Try.func6
    (ChangeSpec.witness6 (enc := enc) (C := Try.checked) false ⟨#[], #[.slice none 0 0, .int .u8 0, .int .u8 0, .int .u8 0], []⟩ 8 (by kernel_rfl) (by kernel_rfl) (by kernel_rfl) (by kernel_rfl)) ?_
  intro W base args ds gs before hval0 hW hcnd _
  have hval : ∀ (j : Nat) t v, Try.f6.params[j]? = some t → args[j]? = some v → Value.okWide Try.prog W .any base t v := hval0
  have hW' := hW
  obtain ⟨p, q, hA0, hV, rfl, hfz, hnd⟩ := hW
  have hA : DataW.TrodAll enc Try.prog W 0 (fun _ => true) true Try.f6.params.toList args.toList ds p := hA0
  rw [Try.params6] at hA hval
  obtain ⟨v0, vs0, d0, ds0, p0, q0, hargs, rfl, rfl, h0, r0⟩ := trodAll_cons hA
  obtain ⟨v1, vs1, d1, ds1, p1, q1, rfl, rfl, rfl, h1, r1⟩ := trodAll_cons r0
  obtain ⟨v2, vs2, d2, ds2, p2, q2, rfl, rfl, rfl, h2, r2⟩ := trodAll_cons r1
  obtain ⟨v3, vs3, d3, ds3, p3, q3, rfl, rfl, rfl, h3, r3⟩ := trodAll_cons r2
  obtain ⟨rfl, rfl, rfl⟩ := trodAll_nil r3
  obtain rfl : args = #[v0, v1, v2, v3] := by cases args; simp_all
  obtain ⟨rfl, rfl⟩ := trodVars_none hV
  obtain ⟨a0, len0, cap0, rfl⟩ := okWide_slice Try.underlying22 (hval 0 22 v0 rfl rfl)
  have k0 := h0
  have lt0 : ∀ x ∈ p0, x.block < W.heap.size := by obtain ⟨m, hm⟩ := k0; exact DataW.trod_lt m _ _ _ hm
  obtain ⟨z0, w0⟩ : ∃ zs, IsRow .u8 W a0 len0 cap0 zs := by
    obtain ⟨fuel, hf⟩ := h0
    rcases open_ints Try.underlying22 Try.underlying5 (by kernel_rfl) hf with ⟨hcs, _⟩ | ⟨x, l, c, zs, hcs, _, hl, hm, hz, _, hcell, hwz⟩
    · simp [Value.cells] at hcs
      obtain ⟨rfl, rfl, rfl⟩ := hcs
      exact ⟨[], .inl ⟨rfl, rfl, rfl, rfl⟩⟩
    · simp [Value.cells] at hcs
      obtain ⟨rfl, rfl, rfl⟩ := hcs
      exact ⟨zs, .inr ⟨_, rfl, hl, hm, by simpa using hz, hcell, hwz⟩⟩
  obtain ⟨a1, rfl, rfl, rfl, w1⟩ := open_int Try.underlying5 (hval 1 5 v1 rfl rfl) h1
  obtain ⟨a2, rfl, rfl, rfl, w2⟩ := open_int Try.underlying5 (hval 2 5 v2 rfl rfl) h2
  obtain ⟨a3, rfl, rfl, rfl, w3⟩ := open_int Try.underlying5 (hval 3 5 v3 rfl rfl) h3
  clear hA0 hval0
  refine (walk a0 len0 cap0 z0 a1 a2 a3 W w0 w1 w2 w3).mono fun e W' ⟨he, bel⟩ => ?_
  subst he
  exact ⟨_, rfl, _, _, _, [], _, [], hW', trodAll_mk1 (shut_bool Try.underlying4 _), (trodAll_cons_mk (Below.trod laidOut (by kernel_rfl) (of_decide_eq_true (by kernel_rfl)) k0 bel lt0) (trodAll_cons_mk (shut_int Try.underlying5 w1) (trodAll_cons_mk (shut_int Try.underlying5 w2) (trodAll_cons_mk (shut_int Try.underlying5 w3) trodAll_mk0)))), rfl, bel.frame _, fun h => by cases h⟩

theorem over : Rows.viableLeafRow.holds Try.pinned (OpenSpec.ofChange Rows.viableLeafSpec) :=
  OpenClaim.holds_of_wide 6 Try.f6 rfl rfl rfl rfl rfl rfl rfl ⟨rfl, rfl, rfl, rfl, rfl⟩ rfl rfl rfl rfl rfl (by kernel_rfl) Try.func6 (by kernel_rfl)
    (of_decide_eq_true (by kernel_rfl)) (by unfold Func.isWrapper; first | (rw [if_pos (by decide +kernel)]; kernel_rfl) | (rw [if_neg (by decide +kernel)]; exact ⟨rfl, rfl⟩))
    (fun os started H enc _ => lifted os started H enc)

theorem proved : Rows.ViableLeafSaid := over
end Go.Proofs.Ytefbgocaoillkaa.viableLeaf

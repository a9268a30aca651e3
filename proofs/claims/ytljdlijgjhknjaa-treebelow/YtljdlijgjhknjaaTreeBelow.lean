/-
  to stand on a block is an order: what stands on what stands on a third stands on that (TreeBelow is true of every input).
-/
import Derived.Test.YtljdlijgjhknjaaRows

import Derived.WalkKit

import Derived.Below

import Derived.ProofKit

import Derived.OpenShut

import Derived.ShutString

import Derived.ChangeOld

import Derived.Test.YtljdlijgjhknjaaShapes

import Derived.Test.YtljdlijgjhknjaaTActs

namespace Go.Proofs.Ytljdlijgjhknjaa.treeBelow

open Go.ChangeShapes Go.WideShapes Go.ChangeAt Go.RowKit

set_option linter.unusedVariables false

theorem own : ownKnob Try.prog.godebug = none := by kernel_rfl
theorem laidOut : laidOutB Try.prog = true := by kernel_rfl
theorem cells4 : Try.prog.cellsOf 4 = 1 := by kernel_rfl
theorem cells5 : Try.prog.cellsOf 5 = 1 := by kernel_rfl
theorem cells33 : Try.prog.cellsOf 33 = 1 := by kernel_rfl
theorem cells35 : Try.prog.cellsOf 35 = 4 := by kernel_rfl
theorem has5 : Sh.Has Try.prog (.int .u8) (.inl 5) := Try.underlying5
theorem has35 : Sh.Has Try.prog (.st (.pair (.int .u8) (.pair (.int .u8) (.pair (.int .u8) (.pair (.int .u8) .unit))))) (.inl 35) := Sh.has_st Try.underlying35 (by kernel_rfl) (Sh.has_pair rfl (by kernel_rfl) has5 (Sh.has_pair rfl (by kernel_rfl) has5 (Sh.has_pair rfl (by kernel_rfl) has5 (Sh.has_pair rfl (by kernel_rfl) has5 Sh.has_unit))))
theorem has33 : Sh.Has Try.prog (.slice (.st (.pair (.int .u8) (.pair (.int .u8) (.pair (.int .u8) (.pair (.int .u8) .unit)))))) (.inl 33) := Sh.has_slice Try.underlying33 (by kernel_rfl) (by decide) has35

set_option maxHeartbeats 4000000 in
theorem walk (a0 : Option Addr) (len0 cap0 : Nat) (e0 : Sh.Val (.slice (.st (.pair (.int .u8) (.pair (.int .u8) (.pair (.int .u8) (.pair (.int .u8) .unit))))))) (a1 : Int) (a2 : Int) (a3 : Int) (w : World) (w0 : Sh.In (.slice (.st (.pair (.int .u8) (.pair (.int .u8) (.pair (.int .u8) (.pair (.int .u8) .unit)))))) w [.slice a0 len0 cap0] e0) (w1 : (Lit.int .u8 a1).wf = true) (w2 : (Lit.int .u8 a2).wf = true) (w3 : (Lit.int .u8 a3).wf = true) :
    Calls Try.prog 5 #[.slice a0 len0 cap0, .int .u8 a1, .int .u8 a2, .int .u8 a3] w fun e w' => e = .returned (.bool true) ∧ Below w.heap.size w w' := by
  have HA := hide (acts_of w0)
  have hx := u8_wf w1
  have hy := u8_wf w2
  have hz := u8_wf w3
  unfold u8B at hx hy hz
  clear w0 w1 w2 w3
  have hml : len0 ≤ 9223372036854775807 := by have := HA.out.1; unfold maxLen at this; omega
  go_enter Try.func5, Try.ntmps5
  go_wp2_with fail
  refine (awake_any _).mono ?_
  rintro e w1 ⟨rfl, hb1⟩
  have HB1 := hide hb1
  clear hb1
  go_wp2_with fail
  refine (of_any 1 2 w1 (u_lit (by simp))).mono ?_
  rintro e w2 ⟨p, rfl, hT, hB⟩
  have HB2 := hide hB
  have HT := hide hT
  clear hT hB
  go_wp2
  go_loopw [20] (fun v wr => ∃ i : Nat, v = .int .i64 (i : Int) ∧ i ≤ len0 ∧ Hid (∃ bs, TOk bs ∧ TAt wr (fun q => w1.heap.size ≤ q) p bs ∧ Below w1.heap.size w1 wr)) (fun v _ => len0 - (intOf v).toNat)
  case atStart => exact ⟨0, rfl, Nat.zero_le _, hide ⟨_, tOne_ok (u_lit (by simp)) (i_lit (by simp)), HT.out, HB2.out⟩⟩
  case round =>
    clear HT HB2
    obtain ⟨i, rfl, hil, hI⟩ := hrel
    obtain ⟨bs, hO, hT, hB⟩ := hI.out
    have HO := hide hO
    have HT := hide hT
    have HB := hide hB
    clear hI hO hT hB
    by_cases hlt : i < len0
    · have HW := hide (HB1.out.trans (HB.out.mono HB1.out.size))
      obtain ⟨b, off, rfl, hbl, hc⟩ := (HA.out.below HW.out).2 (by omega)
      obtain ⟨x0, x1, x2, x3, b0, b1, b2, b3, h4⟩ := hc i hlt
      unfold u8B at b0 b1 b2 b3
      have LD := hide (act_load h4)
      have ST := hide (act_store wr x0 x1 x2 x3)
      have HN := hide (OAt.new wr (.cells #[.int .u8 x0, .int .u8 x1, .int .u8 x2, .int .u8 x3] 35))
      replace HT := hide (HT.out.alloc (.cells #[.int .u8 x0, .int .u8 x1, .int .u8 x2, .int .u8 x3] 35))
      replace HB := hide (HB.out.alloc HB.out.size (.cells #[.int .u8 x0, .int .u8 x1, .int .u8 x2, .int .u8 x3] 35))
      have hli : (i : Int) < (len0 : Int) := by omega
      clear hc h4 HW
      go_upto_region 7 with (first
        | (refine wpList_load_at 35 (.tmp 22) rfl rfl (.pointer (some ⟨b, off + i * 4, none⟩)) rfl (.agg _) LD.out ?_)
        | (refine wpList_store_at 35 (.tmp 11) (.tmp 23) rfl rfl (.pointer (some ⟨wr.heap.size, 0, none⟩)) (.agg _) rfl rfl _ ST.out ?_))
      clear LD ST
      go_frame
      generalize wr.alloc (.cells #[.int .u8 x0, .int .u8 x1, .int .u8 x2, .int .u8 x3] 35) = wa at HN HT HB ⊢
      have q1 := HN.out.cell 1
      have q2 := HN.out.cell 2
      have q3 := HN.out.cell 3
      simp only [List.getElem?_toArray, List.getElem?_cons_zero, List.getElem?_cons_succ] at q1 q2 q3
      generalize wr.heap.size = h at HN q1 q2 q3 ⊢
      go_wp2_with fail
      refine (add_one w1.heap.size p bs (x1 % 24) (x2 % 24) (x3 % 40) wa HB.out.size HT.out HO.out (by unfold U64; omega) (by unfold U64; omega) (by unfold I64; omega)).mono ?_
      rintro e w3 ⟨rfl, bs', hN, hT, hB⟩
      have hok := hN.ok HO.out (by unfold U64; omega) (by unfold I64; omega)
      have HR : Hid (∃ bs, TOk bs ∧ TAt w3 (fun q => w1.heap.size ≤ q) p bs ∧ Below w1.heap.size w1 w3) := ⟨bs', hok, hT, HB.out.trans hB⟩
      generalize errV (addE bs (x1 % 24) (x2 % 24) (x3 % 40)) = E
      clear hN hT hB hok HN q1 q2 q3 HO HT HB
      go_wp2
      go_roundw
      case rel => exact ⟨i + 1, by go_num, by omega, HR⟩
      case measure => simp [intOf]; omega
    · obtain rfl : i = len0 := by omega
      have hX : U64 (a1 % 24) := by unfold U64; omega
      have hY : U64 (a2 % 24) := by unfold U64; omega
      have hZ : U64 (a3 % 24) := by unfold U64; omega
      go_upto_region 10 with fail
      generalize a1 % 24 = X at hX ⊢
      generalize a2 % 24 = Y at hY ⊢
      generalize a3 % 24 = Z at hZ ⊢
      have HXX := hide (below_any _ p bs X X wr HT.out HO.out hX hX)
      have HXH := hide (has_any _ p bs X wr HT.out HO.out hX)
      have HXY := hide (below_any _ p bs X Y wr HT.out HO.out hX hY)
      have HYX := hide (below_any _ p bs Y X wr HT.out HO.out hY hX)
      have HYZ := hide (below_any _ p bs Y Z wr HT.out HO.out hY hZ)
      have HXZ := hide (below_any _ p bs X Z wr HT.out HO.out hX hZ)
      rw [belowB_self] at HXX
      have hanti := hide (fun h1 h2 => belowB_anti (bs := bs) (x := X) (y := Y) h1 h2)
      have htr := hide (fun h1 h2 => belowB_trans (bs := bs) (x := X) (y := Y) (z := Z) h1 h2)
      generalize (idx bs X).isSome = S at HXX HXH
      have HE := hide (HB1.out.trans (HB.out.mono HB1.out.size))
      clear HO HT HB HB1 HA hX hY hZ
      generalize belowB bs X Y = C1 at HXY hanti htr
      generalize belowB bs Y X = C2 at HYX hanti
      generalize belowB bs Y Z = C3 at HYZ htr
      generalize belowB bs X Z = C4 at HXZ htr
      have hSS : (S != S) = false := by simp
      have key : C1 = false ∨ (C1 = true ∧ (C2 = false ∨ (C2 = true ∧ X = Y)) ∧ (C3 = false ∨ (C3 = true ∧ C4 = true))) := by
        cases C1
        · exact .inl rfl
        · refine .inr ⟨rfl, ?_, ?_⟩
          · cases C2
            · exact .inl rfl
            · exact .inr ⟨rfl, hanti.out rfl rfl⟩
          · cases C3
            · exact .inl rfl
            · exact .inr ⟨rfl, htr.out rfl rfl⟩
      clear hanti htr
      rcases key with rfl | ⟨rfl, h2, h3⟩
      · go_wp2_with (first
          | (go_at_call 12; with_reducible refine Calls.mono HXH.out ?_; rintro e w' ⟨rfl, hw⟩; obtain rfl : _ = w' := hw.symm)
          | (go_at_call 9; with_reducible refine Calls.mono HXX.out ?_; rintro e w' ⟨rfl, hw⟩; obtain rfl : _ = w' := hw.symm)
          | (go_at_call 9; with_reducible refine Calls.mono HXY.out ?_; rintro e w' ⟨rfl, hw⟩; obtain rfl : _ = w' := hw.symm)
          | (go_at_call 9; with_reducible refine Calls.mono HYX.out ?_; rintro e w' ⟨rfl, hw⟩; obtain rfl : _ = w' := hw.symm)
          | (go_at_call 9; with_reducible refine Calls.mono HYZ.out ?_; rintro e w' ⟨rfl, hw⟩; obtain rfl : _ = w' := hw.symm)
          | (go_at_call 9; with_reducible refine Calls.mono HXZ.out ?_; rintro e w' ⟨rfl, hw⟩; obtain rfl : _ = w' := hw.symm))
        all_goals (go_ret; exact ⟨rfl, HE.out⟩)
      · rcases h3 with rfl | ⟨rfl, rfl⟩ <;> rcases h2 with rfl | ⟨rfl, rfl⟩
        · go_wp2_with (first
          | (go_at_call 12; with_reducible refine Calls.mono HXH.out ?_; rintro e w' ⟨rfl, hw⟩; obtain rfl : _ = w' := hw.symm)
          | (go_at_call 9; with_reducible refine Calls.mono HXX.out ?_; rintro e w' ⟨rfl, hw⟩; obtain rfl : _ = w' := hw.symm)
          | (go_at_call 9; with_reducible refine Calls.mono HXY.out ?_; rintro e w' ⟨rfl, hw⟩; obtain rfl : _ = w' := hw.symm)
          | (go_at_call 9; with_reducible refine Calls.mono HYX.out ?_; rintro e w' ⟨rfl, hw⟩; obtain rfl : _ = w' := hw.symm)
          | (go_at_call 9; with_reducible refine Calls.mono HYZ.out ?_; rintro e w' ⟨rfl, hw⟩; obtain rfl : _ = w' := hw.symm)
          | (go_at_call 9; with_reducible refine Calls.mono HXZ.out ?_; rintro e w' ⟨rfl, hw⟩; obtain rfl : _ = w' := hw.symm))
          all_goals (go_ret; exact ⟨rfl, HE.out⟩)
        · have hXX : (X != X) = false := by simp
          go_wp2_with (first
          | (go_at_call 12; with_reducible refine Calls.mono HXH.out ?_; rintro e w' ⟨rfl, hw⟩; obtain rfl : _ = w' := hw.symm)
          | (go_at_call 9; with_reducible refine Calls.mono HXX.out ?_; rintro e w' ⟨rfl, hw⟩; obtain rfl : _ = w' := hw.symm)
          | (go_at_call 9; with_reducible refine Calls.mono HXY.out ?_; rintro e w' ⟨rfl, hw⟩; obtain rfl : _ = w' := hw.symm)
          | (go_at_call 9; with_reducible refine Calls.mono HYX.out ?_; rintro e w' ⟨rfl, hw⟩; obtain rfl : _ = w' := hw.symm)
          | (go_at_call 9; with_reducible refine Calls.mono HYZ.out ?_; rintro e w' ⟨rfl, hw⟩; obtain rfl : _ = w' := hw.symm)
          | (go_at_call 9; with_reducible refine Calls.mono HXZ.out ?_; rintro e w' ⟨rfl, hw⟩; obtain rfl : _ = w' := hw.symm))
          all_goals (go_ret; exact ⟨rfl, HE.out⟩)
        · go_wp2_with (first
          | (go_at_call 12; with_reducible refine Calls.mono HXH.out ?_; rintro e w' ⟨rfl, hw⟩; obtain rfl : _ = w' := hw.symm)
          | (go_at_call 9; with_reducible refine Calls.mono HXX.out ?_; rintro e w' ⟨rfl, hw⟩; obtain rfl : _ = w' := hw.symm)
          | (go_at_call 9; with_reducible refine Calls.mono HXY.out ?_; rintro e w' ⟨rfl, hw⟩; obtain rfl : _ = w' := hw.symm)
          | (go_at_call 9; with_reducible refine Calls.mono HYX.out ?_; rintro e w' ⟨rfl, hw⟩; obtain rfl : _ = w' := hw.symm)
          | (go_at_call 9; with_reducible refine Calls.mono HYZ.out ?_; rintro e w' ⟨rfl, hw⟩; obtain rfl : _ = w' := hw.symm)
          | (go_at_call 9; with_reducible refine Calls.mono HXZ.out ?_; rintro e w' ⟨rfl, hw⟩; obtain rfl : _ = w' := hw.symm))
          all_goals (go_ret; exact ⟨rfl, HE.out⟩)
        · have hXX : (X != X) = false := by simp
          go_wp2_with (first
          | (go_at_call 12; with_reducible refine Calls.mono HXH.out ?_; rintro e w' ⟨rfl, hw⟩; obtain rfl : _ = w' := hw.symm)
          | (go_at_call 9; with_reducible refine Calls.mono HXX.out ?_; rintro e w' ⟨rfl, hw⟩; obtain rfl : _ = w' := hw.symm)
          | (go_at_call 9; with_reducible refine Calls.mono HXY.out ?_; rintro e w' ⟨rfl, hw⟩; obtain rfl : _ = w' := hw.symm)
          | (go_at_call 9; with_reducible refine Calls.mono HYX.out ?_; rintro e w' ⟨rfl, hw⟩; obtain rfl : _ = w' := hw.symm)
          | (go_at_call 9; with_reducible refine Calls.mono HYZ.out ?_; rintro e w' ⟨rfl, hw⟩; obtain rfl : _ = w' := hw.symm)
          | (go_at_call 9; with_reducible refine Calls.mono HXZ.out ?_; rintro e w' ⟨rfl, hw⟩; obtain rfl : _ = w' := hw.symm))
          all_goals (go_ret; exact ⟨rfl, HE.out⟩)

set_option maxRecDepth 100000 in
theorem lifted (os : Os) (started : os.Started) (H : Type) (enc : TypeId × Value → H) :
    ReturnsInHanded {} Try.checked os 5 .any (Rows.treeBelowSpec.pre6 enc Try.prog Try.f5 Rows.treeBelowRow.domain false) (Rows.treeBelowSpec.post enc Try.prog Try.f5 false true false false) := by
  refine returnsInHanded_of_change (C := Try.checked) own started (by kernel_rfl) Try.func5
    (ChangeSpec.witness6 (enc := enc) (C := Try.checked) false ⟨#[], #[.slice none 0 0, .int .u8 0, .int .u8 0, .int .u8 0], []⟩ 8 (by kernel_rfl) (by kernel_rfl) (by kernel_rfl) (by kernel_rfl)) ?_
  intro W base args ds gs before hval0 hW hcnd _
  have hval : ∀ (j : Nat) t v, Try.f5.params[j]? = some t → args[j]? = some v → Value.okWide Try.prog W .any base t v := hval0
  have hW' := hW
  obtain ⟨p, q, hA0, hV, rfl, hfz, hnd⟩ := hW
  have hA : DataW.TrodAll enc Try.prog W 0 (fun _ => true) true Try.f5.params.toList args.toList ds p := hA0
  rw [Try.params5] at hA hval
  obtain ⟨v0, vs0, d0, ds0, p0, q0, hargs, rfl, rfl, h0, r0⟩ := trodAll_cons hA
  obtain ⟨v1, vs1, d1, ds1, p1, q1, rfl, rfl, rfl, h1, r1⟩ := trodAll_cons r0
  obtain ⟨v2, vs2, d2, ds2, p2, q2, rfl, rfl, rfl, h2, r2⟩ := trodAll_cons r1
  obtain ⟨v3, vs3, d3, ds3, p3, q3, rfl, rfl, rfl, h3, r3⟩ := trodAll_cons r2
  obtain ⟨rfl, rfl, rfl⟩ := trodAll_nil r3
  obtain rfl : args = #[v0, v1, v2, v3] := by cases args; simp_all
  obtain ⟨rfl, rfl⟩ := trodVars_none hV
  obtain ⟨a0, len0, cap0, rfl⟩ := okWide_slice Try.underlying33 (hval 0 33 v0 rfl rfl)
  have k0 := h0
  have lt0 : ∀ x ∈ p0, x.block < W.heap.size := by obtain ⟨m, hm⟩ := k0; exact DataW.trod_lt m _ _ _ hm
  obtain ⟨fuel0, hf0⟩ := h0
  simp only [Value.cells] at hf0
  obtain ⟨e0, w0⟩ := (Sh.read _).1 _ _ _ _ has33 hf0
  obtain ⟨a1, rfl, rfl, rfl, w1⟩ := open_int Try.underlying5 (hval 1 5 v1 rfl rfl) h1
  obtain ⟨a2, rfl, rfl, rfl, w2⟩ := open_int Try.underlying5 (hval 2 5 v2 rfl rfl) h2
  obtain ⟨a3, rfl, rfl, rfl, w3⟩ := open_int Try.underlying5 (hval 3 5 v3 rfl rfl) h3
  clear hA0 hval0
  refine (walk a0 len0 cap0 e0 a1 a2 a3 W w0 w1 w2 w3).mono fun e W' ⟨he, bel⟩ => ?_
  subst he
  exact ⟨_, rfl, _, _, _, [], _, [], hW', trodAll_mk1 (shut_bool Try.underlying4 _), (trodAll_cons_mk (Below.trod laidOut (by kernel_rfl) (of_decide_eq_true (by kernel_rfl)) k0 bel lt0) (trodAll_cons_mk (shut_int Try.underlying5 w1) (trodAll_cons_mk (shut_int Try.underlying5 w2) (trodAll_cons_mk (shut_int Try.underlying5 w3) trodAll_mk0)))), rfl, bel.frame _, fun h => by cases h⟩

theorem over : Rows.treeBelowRow.holds Try.pinned (OpenSpec.ofChange Rows.treeBelowSpec) :=
  OpenClaim.holds_of_wide 5 Try.f5 rfl rfl rfl rfl rfl rfl rfl ⟨rfl, rfl, rfl, rfl, rfl⟩ rfl rfl rfl rfl rfl (by kernel_rfl) Try.func5 (by kernel_rfl)
    (of_decide_eq_true (by kernel_rfl)) (by unfold Func.isWrapper; first | (rw [if_pos (by decide +kernel)]; kernel_rfl) | (rw [if_neg (by decide +kernel)]; exact ⟨rfl, rfl⟩))
    (fun os started H enc _ => lifted os started H enc)

theorem proved : Rows.TreeBelowSaid := over
end Go.Proofs.Ytljdlijgjhknjaa.treeBelow

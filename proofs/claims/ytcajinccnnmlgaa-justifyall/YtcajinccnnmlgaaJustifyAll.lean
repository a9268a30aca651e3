/-
  where all vote for each epoch's checkpoint as it ends the one ahead of it is final (JustifyAll is true of every input).
-/
import Derived.Test.YtcajinccnnmlgaaRows

import Derived.WalkKit

import Derived.Below

import Derived.ProofKit

import Derived.OpenShut

import Derived.ShutString

import Derived.ChangeOld

import Derived.Test.YtcajinccnnmlgaaJMath

import Derived.Test.YtcajinccnnmlgaaJEq

namespace Go.Proofs.Ytcajinccnnmlgaa.justifyAll

open Go.ChangeShapes Go.WideShapes Go.ChangeAt Go.RowKit

set_option linter.unusedVariables false

theorem own : ownKnob Try.prog.godebug = none := by kernel_rfl
theorem laidOut : laidOutB Try.prog = true := by kernel_rfl
theorem cells4 : Try.prog.cellsOf 4 = 1 := by kernel_rfl
theorem cells5 : Try.prog.cellsOf 5 = 1 := by kernel_rfl
theorem cells23 : Try.prog.cellsOf 23 = 1 := by kernel_rfl

set_option maxHeartbeats 4000000 in
set_option maxRecDepth 100000 in
theorem walk (a0 : Int) (a1 : Int) (w : World) (w0 : (Lit.int .u8 a0).wf = true) (w1 : (Lit.int .u64 a1).wf = true) :
    Calls Try.prog 6 #[.int .u8 a0, .int .u64 a1] w fun e w' => e = .returned (.bool true) ∧ Below w.heap.size w w' := by
  obtain ⟨A, hA, hA1⟩ := rem50 (wf8j w0)
  clear w0 w1
  have HA8 : IntKind.u8.wrap A = A := by rw [IntKind.wrap_u8]; omega
  have HA64 : wrap64 A = A := by unfold wrap64; omega
  have HAi : IntKind.i64.wrap A = A := by rw [IntKind.wrap_i64]; omega
  obtain ⟨K, hK⟩ : ∃ x, 2 + A = x := ⟨_, rfl⟩
  have HKw : IntKind.i64.wrap (2 + A) = K := by rw [IntKind.wrap_i64]; omega
  have HKw2 : wrap64 (2 + A) = K := by unfold wrap64; omega
  have HKb : Hid (2 ≤ K ∧ K ≤ 51) := hide (by omega)
  have HKe := hide hK
  clear hK hA1
  go_enter Try.func6, Try.ntmps6
  go_wp2_with fail
  refine (awake_any _).mono ?_
  rintro e w1 ⟨rfl, hbel⟩
  have HN := hide hbel
  have hgn := hide hbel.size
  clear hbel
  have HV := hide (OAt.new w1 (.cells (scells false false false false 0 1 0 1 0 1) 27))
  replace HN := hide (HN.out.alloc HN.out.size (.cells (scells false false false false 0 1 0 1 0 1) 27))
  generalize hg : w1.heap.size = g at HV hgn
  generalize hW : w1.alloc (.cells (scells false false false false 0 1 0 1 0 1) 27) = W at HN HV
  go_wp2
  clear hg hW hA HA8 HA64 HAi HKw HKw2
  replace hgn := hgn.out
  have HK1 := HKb.out
  go_loopw [7] (fun i wr => ∃ (x : Int) (b0 b1 b2 b3 : Bool) (pe pr ce cr fe fr : Int), (2 ≤ x ∧ x ≤ K + 1) ∧ i = .int .i64 x ∧ Hid (invA a1 x b0 b1 b2 b3 pe pr ce cr fe fr) ∧ Hid (OAt wr g (.cells (scells b0 b1 b2 b3 pe pr ce cr fe fr) 27) ∧ Below w.heap.size w wr)) (fun i _ => (K + 1 - intOf i).toNat)
  case atStart =>
    exact ⟨2, false, false, false, false, 0, 1, 0, 1, 0, 1, by omega, rfl, hide (by simp [invA]), hide ⟨HV.out, HN.out⟩⟩
  case round =>
    clear HV HN
    obtain ⟨x, b0, b1, b2, b3, pe, pr, ce, cr, fe, fr, hx, rfl, hf, hI⟩ := hrel
    have HV := hide hI.out.1
    have HN := hide hI.out.2
    clear hI
    have v0 := HV.out.cell 0
    have v1 := HV.out.cell 1
    have v2 := HV.out.cell 2
    have v3 := HV.out.cell 3
    have v4 := HV.out.cell 4
    have v5 := HV.out.cell 5
    have v6 := HV.out.cell 6
    have v7 := HV.out.cell 7
    have v8 := HV.out.cell 8
    have v9 := HV.out.cell 9
    simp only [List.getElem?_toArray, List.getElem?_cons_zero, List.getElem?_cons_succ] at v0 v1 v2 v3 v4 v5 v6 v7 v8 v9
    have x1 : IntKind.i64.wrap (x - 1) = x - 1 := by rw [IntKind.wrap_i64]; omega
    have x1w : wrap64 (x - 1) = x - 1 := by unfold wrap64; omega
    have x2w : wrap64 (x - 2) = x - 2 := by unfold wrap64; omega
    have x3w : wrap64 (x - 3) = x - 3 := by unfold wrap64; omega
    by_cases hlt : x ≤ K
    · obtain ⟨F, hF⟩ : ∃ y, Hid (finI true true b1 b2 pe ce x pe ce fe = y) := ⟨_, rfl⟩
      obtain ⟨R, hR⟩ : ∃ y, Hid (finI true true b1 b2 pe ce x pr cr fr = y) := ⟨_, rfl⟩
      have hnew : Hid (invA a1 (x + 1) true true b1 b2 ce cr x a1 F R) := by
        obtain ⟨i1, i2, i3, i4⟩ := hf.out
        refine ⟨fun h => by omega, fun _ => ⟨rfl, rfl, by omega, rfl⟩, fun h => ?_, fun h => ?_⟩
        · obtain ⟨rfl, rfl, rfl, rfl, rfl, rfl⟩ := i1 (by omega)
          exact ⟨by rw [← hF.out, finI_same], by rw [← hR.out, finI_same]⟩
        · obtain ⟨_, _, h3, h4⟩ := i2 (by omega)
          have h5 : ce = wrap64 (x - 1) := by rw [x1w]; exact h3
          exact ⟨by rw [← hF.out, finI_one _ _ _ _ _ _ _ _ h5]; omega, by rw [← hR.out, finI_one _ _ _ _ _ _ _ _ h5]; exact h4⟩
      clear x2w x3w
      go_wp2_with fail
      refine (next_any _ _ _ _ _ _ _ _ _ _ _ _ _ _ _ _ _ _).mono ?_
      rintro e w5 ⟨rfl, hbel⟩
      clear v0 v1 v2 v3 v4 v5 v6 v7 v8 v9
      replace HV := hide (HV.out.below hbel)
      replace HN := hide (HN.out.trans (hbel.mono HN.out.size))
      clear hbel
      rw [show nextC b0 b1 b2 pe pr ce cr fe fr x true true (x - 1) a1 x a1 = scells true true b1 b2 ce cr x a1 F R from by rw [nextC, show bit1 b0 true = true from rfl, hF.out, hR.out]; rfl]
      obtain ⟨w6, hrun, ho6, ha6⟩ := store_obj (P := Try.prog) (ty := 27) (n := 10) (cs := [.bool true, .bool true, .bool b1, .bool b2, .int .i64 ce, .int .u64 cr, .int .i64 x, .int .u64 a1, .int .i64 F, .int .u64 R]) (by kernel_rfl) rfl rfl (by simp [Value.oneCell']) HV.out.at_
      replace HV := hide (OAt.of ho6)
      replace HN := hide (HN.out.trans (ha6.old _ HN.out.size (by omega)))
      have HW := hide hrun
      clear hrun ho6 ha6 x1 x1w
      have x1 : IntKind.i64.wrap (x + 1) = x + 1 := by rw [IntKind.wrap_i64]; omega
      have x1w : wrap64 (x + 1) = x + 1 := by unfold wrap64; omega
      go_wp2_with (refine wpList_store_at 27 (.tmp 5) (.tmp 33) rfl rfl _ _ rfl rfl w6 HW.out ?_)
      go_roundw
      case rel => exact ⟨x + 1, true, true, b1, b2, ce, cr, x, a1, F, R, by omega, rfl, hnew, hide ⟨HV.out, HN.out⟩⟩
      case measure => simp [intOf]; omega
    · have hxk : x = K + 1 := by omega
      obtain ⟨i1, i2, i3, i4⟩ := hf.out
      obtain ⟨rfl, rfl, h3, rfl⟩ := i2 (by omega)
      obtain rfl : ce = K := by omega
      by_cases hk2 : 2 < ce
      · obtain ⟨h4, rfl⟩ := i4 (by omega)
        obtain rfl : fe = ce - 1 := by omega
        subst hxk
        clear i1 i2 i3 i4 h3 h4 x1 x1w x2w x3w
        have y0 : ∀ o, (wr.alloc o).cell? ⟨g, 0, none⟩ = some (.bool true) := fun o => (HV.out.alloc o).cell 0
        have y1 : ∀ o, (wr.alloc o).cell? ⟨g, 1, none⟩ = some (.bool true) := fun o => (HV.out.alloc o).cell 1
        have y6 : ∀ o, (wr.alloc o).cell? ⟨g, 6, none⟩ = some (.int .i64 ce) := fun o => (HV.out.alloc o).cell 6
        have y7 : ∀ o, (wr.alloc o).cell? ⟨g, 7, none⟩ = some (.int .u64 fr) := fun o => (HV.out.alloc o).cell 7
        have y8 : ∀ o, (wr.alloc o).cell? ⟨g, 8, none⟩ = some (.int .i64 (ce - 1)) := fun o => (HV.out.alloc o).cell 8
        have y9 : ∀ o, (wr.alloc o).cell? ⟨g, 9, none⟩ = some (.int .u64 fr) := fun o => (HV.out.alloc o).cell 9
        go_wp2
        go_ret
        exact ⟨rfl, HN.out.alloc HN.out.size _⟩
      · obtain ⟨rfl, rfl⟩ := i3 (by omega)
        subst hxk
        clear i1 i2 i3 i4 h3 x1 x1w x2w x3w
        have y0 : ∀ o, (wr.alloc o).cell? ⟨g, 0, none⟩ = some (.bool true) := fun o => (HV.out.alloc o).cell 0
        have y1 : ∀ o, (wr.alloc o).cell? ⟨g, 1, none⟩ = some (.bool true) := fun o => (HV.out.alloc o).cell 1
        have y6 : ∀ o, (wr.alloc o).cell? ⟨g, 6, none⟩ = some (.int .i64 ce) := fun o => (HV.out.alloc o).cell 6
        have y7 : ∀ o, (wr.alloc o).cell? ⟨g, 7, none⟩ = some (.int .u64 cr) := fun o => (HV.out.alloc o).cell 7
        have y8 : ∀ o, (wr.alloc o).cell? ⟨g, 8, none⟩ = some (.int .i64 0) := fun o => (HV.out.alloc o).cell 8
        have y9 : ∀ o, (wr.alloc o).cell? ⟨g, 9, none⟩ = some (.int .u64 1) := fun o => (HV.out.alloc o).cell 9
        go_wp2
        go_ret
        exact ⟨rfl, HN.out.alloc HN.out.size _⟩

set_option maxRecDepth 100000 in
theorem lifted (os : Os) (started : os.Started) (H : Type) (enc : TypeId × Value → H) :
    ReturnsInHanded {} Try.checked os 6 .any (Rows.justifyAllSpec.pre6 enc Try.prog Try.f6 Rows.justifyAllRow.domain false) (Rows.justifyAllSpec.post enc Try.prog Try.f6 false true false false) := by
  refine returnsInHanded_of_change (C := Try.checked) own started (by kernel_rfl) Try.func6
    (ChangeSpec.witness6 (enc := enc) (C := Try.checked) false ⟨#[], #[.int .u8 0, .int .u64 0], []⟩ 8 (by kernel_rfl) (by kernel_rfl) (by kernel_rfl) (by kernel_rfl)) ?_
  intro W base args ds gs before hval0 hW hcnd _
  have hval : ∀ (j : Nat) t v, Try.f6.params[j]? = some t → args[j]? = some v → Value.okWide Try.prog W .any base t v := hval0
  have hW' := hW
  obtain ⟨p, q, hA0, hV, rfl, hfz, hnd⟩ := hW
  have hA : DataW.TrodAll enc Try.prog W 0 (fun _ => true) true Try.f6.params.toList args.toList ds p := hA0
  rw [Try.params6] at hA hval
  obtain ⟨v0, vs0, d0, ds0, p0, q0, hargs, rfl, rfl, h0, r0⟩ := trodAll_cons hA
  obtain ⟨v1, vs1, d1, ds1, p1, q1, rfl, rfl, rfl, h1, r1⟩ := trodAll_cons r0
  obtain ⟨rfl, rfl, rfl⟩ := trodAll_nil r1
  obtain rfl : args = #[v0, v1] := by cases args; simp_all
  obtain ⟨rfl, rfl⟩ := trodVars_none hV
  obtain ⟨a0, rfl, rfl, rfl, w0⟩ := open_int Try.underlying5 (hval 0 5 v0 rfl rfl) h0
  obtain ⟨a1, rfl, rfl, rfl, w1⟩ := open_int Try.underlying23 (hval 1 23 v1 rfl rfl) h1
  clear hA0 hval0
  refine (walk a0 a1 W w0 w1).mono fun e W' ⟨he, bel⟩ => ?_
  subst he
  exact ⟨_, rfl, _, _, _, [], _, [], hW', trodAll_mk1 (shut_bool Try.underlying4 _), (trodAll_cons_mk (shut_int Try.underlying5 w0) (trodAll_cons_mk (shut_int Try.underlying23 w1) trodAll_mk0)), rfl, bel.frame _, fun h => by cases h⟩

theorem over : Rows.justifyAllRow.holds Try.pinned (OpenSpec.ofChange Rows.justifyAllSpec) :=
  OpenClaim.holds_of_wide 6 Try.f6 rfl rfl rfl rfl rfl rfl rfl ⟨rfl, rfl, rfl, rfl, rfl⟩ rfl rfl rfl rfl rfl (by kernel_rfl) Try.func6 (by kernel_rfl)
    (of_decide_eq_true (by kernel_rfl)) (by unfold Func.isWrapper; first | (rw [if_pos (by decide +kernel)]; kernel_rfl) | (rw [if_neg (by decide +kernel)]; exact ⟨rfl, rfl⟩))
    (fun os started H enc _ => lifted os started H enc)

theorem proved : Rows.JustifyAllSaid := over
end Go.Proofs.Ytcajinccnnmlgaa.justifyAll

/-
  in a line of blocks the one of a slot is the last that is not later, and each stands on all ahead of it (TreeLine is true of every input).
-/
import Derived.Test.YtljdlijgjhknjaaRows

import Derived.WalkKit

import Derived.Below

import Derived.ProofKit

import Derived.OpenShut

import Derived.ShutString

import Derived.Test.YtljdlijgjhknjaaTLine

namespace Go.Proofs.Ytljdlijgjhknjaa.treeLine

open Go.ChangeShapes Go.WideShapes Go.ChangeAt Go.RowKit

open Go.ChangeMaps (open_string shut_string)

set_option linter.unusedVariables false      -- a walk need not use every 'w<i>' (that an integer argument fits its kind)

theorem own : ownKnob Try.prog.godebug = none := by kernel_rfl

-- HEARTBEATS: 4000000
set_option maxHeartbeats 1000000 in
theorem walk (a0 : Int) (a1 : Int) (w0 : (Lit.int .u8 a0).wf = true) (w1 : (Lit.int .u8 a1).wf = true) (w : World) :
    Calls Try.prog 3 #[.int .u8 a0, .int .u8 a1] w fun e w' => e = .returned (.bool true) ∧ Below w.heap.size w w' := by
  have hA : 0 ≤ a0 ∧ a0 ≤ 255 := by simpa [Lit.wf, IntKind.min, IntKind.max, IntKind.signed, IntKind.bits] using w0
  have hS : 0 ≤ a1 ∧ a1 ≤ 255 := by simpa [Lit.wf, IntKind.min, IntKind.max, IntKind.signed, IntKind.bits] using w1
  clear w0 w1
  obtain ⟨s, rfl⟩ : ∃ s : Nat, a1 = (s : Int) := ⟨a1.toNat, by omega⟩
  obtain ⟨k, hk⟩ : ∃ k : Nat, Hid (1 + a0 % 100 = (k : Int)) := ⟨(1 + a0 % 100).toNat, by show _ = _; omega⟩
  have hk1 : 1 ≤ k ∧ k ≤ 100 := by have := hk.out; omega
  obtain ⟨hk1, hk2⟩ := hk1
  have hs : s ≤ 255 := by omega
  have hkd : ∀ x : Int, 1 + a0 % 100 = x → x = (k : Int) := fun x h => by rw [← h]; exact hk.out
  go_enter Try.func3, Try.ntmps3
  go_wp2_with fail
  refine (awake_any _).mono ?_
  rintro e w1 ⟨rfl, hb1⟩
  have HB1 := hide hb1
  clear hb1 hkd
  go_wp2_with fail
  refine (of_any 1 0 w1 (u_lit (by simp))).mono ?_
  rintro e w2 ⟨p, rfl, hT, hB⟩
  have HB2 := hide hB
  have HT := hide hT
  clear hT hB
  go_wp2
  rw [hk.out]
  generalize a0 % 100 = y at *
  clear hA hS hk
  go_loopw [7] (fun v wr => ∃ i : Nat, v = .int .i64 (i : Int) ∧ 1 ≤ i ∧ i ≤ k ∧ Hid (∃ bs, IsLine bs i ∧ TAt wr (fun q => w1.heap.size ≤ q) p bs ∧ Below w1.heap.size w1 wr)) (fun v _ => k - (intOf v).toNat)
  case atStart => exact ⟨1, rfl, Nat.le_refl _, hk1, hide ⟨_, IsLine.one, HT.out, HB2.out⟩⟩
  case round =>
    clear HT HB2
    obtain ⟨i, rfl, hi1, hik, hI⟩ := hrel
    obtain ⟨bs, hL, hT, hB⟩ := hI.out
    clear hI
    by_cases hlt : i < k
    · have hw1 : IntKind.u64.wrap ((i : Int) + 1) = (i : Int) + 1 := by rw [IntKind.wrap_u64]; omega
      have hw2 : IntKind.u64.wrap (i : Int) = (i : Int) := by rw [IntKind.wrap_u64]; omega
      have HL := hide hL
      have HT := hide hT
      have HB := hide hB
      clear hL hT hB
      go_wp2_with fail
      refine (add_one w1.heap.size p bs ((i : Int) + 1) (i : Int) (2 * (i : Int)) wr HB.out.size HT.out HL.out.ok (by unfold U64; omega) (by unfold U64; omega) (by unfold I64; omega)).mono ?_
      rintro e w3 ⟨rfl, bs', hN, hT, hB⟩
      obtain ⟨hE, hL'⟩ := HL.out.next hi1 (by omega) hN
      rw [hE, show errV 0 = .nilIface from rfl]
      have HR : Hid (∃ bs, IsLine bs (i + 1) ∧ TAt w3 (fun q => w1.heap.size ≤ q) p bs ∧ Below w1.heap.size w1 w3) := ⟨bs', hL', hT, HB.out.trans hB⟩
      clear hE hL' hT hB hN HL HT HB
      go_wp2
      go_roundw
      case rel => exact ⟨i + 1, by go_num, by omega, by omega, HR⟩
      case measure => simp [intOf]; omega
    · obtain rfl : i = k := by omega
      have HL := hide hL
      have HT := hide hT
      have HB := hide hB
      clear hL hT hB hlt hik
      go_wp2
      go_loop [10] (fun v => ∃ j : Nat, v = .int .i64 (j : Int) ∧ 1 ≤ j ∧ j ≤ i + 1) (fun v => i + 1 - (intOf v).toNat)
      case atStart => exact ⟨1, rfl, Nat.le_refl _, by omega⟩
      case round =>
        obtain ⟨j, rfl, hj1, hj2⟩ := hrel
        have hwk : IntKind.u64.wrap (i : Int) = (i : Int) := by rw [IntKind.wrap_u64]; omega
        by_cases hle : j ≤ i
        · have hwj : IntKind.u64.wrap (j : Int) = (j : Int) := by rw [IntKind.wrap_u64]; omega
          have H1 := hide (below_any _ p bs (i : Int) (j : Int) wr HT.out HL.out.ok (by unfold U64; omega) (by unfold U64; omega))
          rw [show belowB bs (i : Int) (j : Int) = true from by
            have := HL.out.below (t := i - 1) (b := j - 1) (by omega) (by omega)
            rw [show ((i - 1 : Nat) : Int) + 1 = (i : Int) by omega, show ((j - 1 : Nat) : Int) + 1 = (j : Int) by omega] at this
            rw [this]
            exact decide_eq_true (by omega)] at H1
          by_cases hlj : j < i
          · have H2 := hide (below_any _ p bs (j : Int) (i : Int) wr HT.out HL.out.ok (by unfold U64; omega) (by unfold U64; omega))
            rw [show belowB bs (j : Int) (i : Int) = false from by
              have := HL.out.below (t := j - 1) (b := i - 1) (by omega) (by omega)
              rw [show ((i - 1 : Nat) : Int) + 1 = (i : Int) by omega, show ((j - 1 : Nat) : Int) + 1 = (j : Int) by omega] at this
              rw [this]
              exact decide_eq_false (by omega)] at H2
            go_wp2_with fail
            refine H1.out.mono ?_
            rintro e w' ⟨rfl, hw⟩
            obtain rfl : _ = w' := hw.symm
            go_wp2_with fail
            refine H2.out.mono ?_
            rintro e w' ⟨rfl, hw⟩
            obtain rfl : _ = w' := hw.symm
            go_wp2
            go_round
            case rel => exact ⟨j + 1, by go_num, by omega, by omega⟩
            case measure => simp [intOf]; omega
          · obtain rfl : j = i := by omega
            go_wp2_with fail
            refine H1.out.mono ?_
            rintro e w' ⟨rfl, hw⟩
            obtain rfl : _ = w' := hw.symm
            go_wp2
            go_round
            case rel => exact ⟨j + 1, by go_num, by omega, by omega⟩
            case measure => simp [intOf]
        · have H3 := hide (at_any _ p bs (i : Int) (s : Int) wr HT.out HL.out.ok (by unfold U64; omega))
          have H4 := hide (len_any _ p bs wr HT.out HL.out.ok)
          have e3 : atR bs (i : Int) (s : Int) = ((min (s / 2) (i - 1) : Nat) : Int) + 1 := by
            have := HL.out.at (t := i - 1) (s := s) (by omega)
            rwa [show ((i - 1 : Nat) : Int) + 1 = (i : Int) by omega] at this
          rw [e3, show ((min (s / 2) (i - 1) : Nat) : Int) = min ((s : Int) / 2) ((i : Int) - 1) by omega] at H3
          rw [HL.out.len] at H4
          clear e3
          have HE := hide (HB1.out.trans (HB.out.mono HB1.out.size))
          generalize min ((s : Int) / 2) ((i : Int) - 1) = M at H3 ⊢
          clear HL HT HB HB1
          go_wp2_with (first
            | (go_at_call 10; refine H3.out.mono ?_; rintro e w' ⟨rfl, hw⟩; obtain rfl : _ = w' := hw.symm)
            | (go_at_call 11; refine H4.out.mono ?_; rintro e w' ⟨rfl, hw⟩; obtain rfl : _ = w' := hw.symm))
          go_ret
          exact ⟨rfl, HE.out⟩
  -- go_enter Try.func3, Try.ntmps3
  -- go_wp2
  -- go_ret
  -- exact ⟨rfl, by repeat (first | exact Grown.refl _ | apply Grown.drew | apply Grown.alloc)⟩

set_option maxRecDepth 100000 in
theorem lifted (os : Os) (started : os.Started) (H : Type) (enc : TypeId × Value → H) :
    ReturnsInHanded {} Try.checked os 3 .any (Rows.treeLineSpec.pre6 enc Try.prog Try.f3 Rows.treeLineRow.domain false) (Rows.treeLineSpec.post enc Try.prog Try.f3 false true false false) := by
  refine returnsInHanded_of_change (C := Try.checked) own started (by kernel_rfl) Try.func3
    (ChangeSpec.witness6 (enc := enc) (C := Try.checked) false ⟨#[], #[.int .u8 0, .int .u8 0], []⟩ 8 (by kernel_rfl) (by kernel_rfl) (by kernel_rfl) (by kernel_rfl)) ?_
  intro W base args ds gs before hval0 hW hcnd _
  have hval : ∀ (j : Nat) t v, Try.f3.params[j]? = some t → args[j]? = some v → Value.okWide Try.prog W .any base t v := hval0
  have hW' := hW
  obtain ⟨p, q, hA0, hV, rfl, hfz, hnd⟩ := hW
  have hA : DataW.TrodAll enc Try.prog W 0 (fun _ => true) true Try.f3.params.toList args.toList ds p := hA0
  rw [Try.params3] at hA hval
  obtain ⟨v0, vs0, d0, ds0, p0, q0, hargs, rfl, rfl, h0, r0⟩ := trodAll_cons hA
  obtain ⟨v1, vs1, d1, ds1, p1, q1, rfl, rfl, rfl, h1, r1⟩ := trodAll_cons r0
  obtain ⟨rfl, rfl, rfl⟩ := trodAll_nil r1
  obtain rfl : args = #[v0, v1] := by cases args; simp_all
  obtain ⟨rfl, rfl⟩ := trodVars_none hV
  obtain ⟨a0, rfl, rfl, rfl, w0⟩ := open_int Try.underlying5 (hval 0 5 v0 rfl rfl) h0
  obtain ⟨a1, rfl, rfl, rfl, w1⟩ := open_int Try.underlying5 (hval 1 5 v1 rfl rfl) h1
  clear hA0 hval0
  refine (walk a0 a1 w0 w1 W).mono fun e W' ⟨he, hg⟩ => ?_
  subst he
  exact ⟨_, rfl, _, _, _, [], _, [], hW', (trodAll_cons_mk (shut_bool Try.underlying4 _) trodAll_mk0), (trodAll_cons_mk (shut_int Try.underlying5 w0) (trodAll_cons_mk (shut_int Try.underlying5 w1) trodAll_mk0)), rfl, hg.frame _, fun h => by cases h⟩

theorem over : Rows.treeLineRow.holds Try.pinned (OpenSpec.ofChange Rows.treeLineSpec) :=
  OpenClaim.holds_of_wide 3 Try.f3 rfl rfl rfl rfl rfl rfl rfl ⟨rfl, rfl, rfl, rfl, rfl⟩ rfl rfl rfl rfl rfl (by kernel_rfl) Try.func3 (by kernel_rfl)
    (of_decide_eq_true (by kernel_rfl)) (by unfold Func.isWrapper; first | (rw [if_pos (by decide +kernel)]; kernel_rfl) | (rw [if_neg (by decide +kernel)]; exact ⟨rfl, rfl⟩))
    (fun os started H enc _ => lifted os started H enc)

theorem proved : Rows.TreeLineSaid :=
  over
end Go.Proofs.Ytljdlijgjhknjaa.treeLine

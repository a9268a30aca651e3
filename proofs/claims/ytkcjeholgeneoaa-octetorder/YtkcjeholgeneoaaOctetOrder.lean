/-
  of two numbers' eight bytes those that are greater where they differ first are the greater number's (OctetOrder is true of every input).
-/
import Derived.Test.YtkcjeholgeneoaaRows
import Derived.WalkKit
import Derived.Below
import Derived.ProofKit
import Derived.OpenShut
import Derived.ShutString
import Derived.Test.YtkcjeholgeneoaaOctAwake
namespace Go.Proofs.Ytkcjeholgeneoaa.octetOrder
open Go.ChangeShapes Go.WideShapes Go.ChangeAt Go.RowKit
open Go.ChangeMaps (open_string shut_string)
set_option linter.unusedVariables false      -- a walk need not use every 'w<i>' (that an integer argument fits its kind)

theorem own : ownKnob Try.prog.godebug = none := by kernel_rfl

theorem part8 (a b : Int) (ha : 0 ≤ a ∧ a ≤ 18446744073709551615) (hb : 0 ≤ b ∧ b ≤ 18446744073709551615) (h : a ≠ b) :
    ∃ k : Nat, k < 8 ∧ parts (be8 a) (be8 b) 0 = (k : Int) ∧ (((be8 a).getD k 0 < (be8 b).getD k 0 ∧ a < b) ∨ ((be8 b).getD k 0 < (be8 a).getD k 0 ∧ b < a)) := by
  have na := num_be8 a ha.1 ha.2
  have nb := num_be8 b hb.1 hb.2
  obtain ⟨k, hk, hp, hd, h1, h2⟩ := parts_order (be8 a) (be8 b) 0 0 rfl (bytes_be8 a ha.1 ha.2) (bytes_be8 b hb.1 hb.2) (fun e => h (by rw [← na, ← nb, e]))
  refine ⟨k, hk, by rw [hp, Nat.zero_add], ?_⟩
  rcases Int.lt_or_gt_of_ne hd with hl | hg
  · left
    have := h1 hl
    exact ⟨hl, by unfold num at na nb; omega⟩
  · right
    have := h2 hg
    exact ⟨hg, by unfold num at na nb; omega⟩
set_option maxHeartbeats 1000000 in
theorem walk (a0 : Int) (a1 : Int) (w0 : (Lit.int .u64 a0).wf = true) (w1 : (Lit.int .u64 a1).wf = true) (w : World) :
    Calls Try.prog 8 #[.int .u64 a0, .int .u64 a1] w fun e w' => e = .returned (.bool true) ∧ Below w.heap.size w w' := by
  have hA := wf_u64 w0
  have hB := wf_u64 w1
  clear w0 w1
  go_enter Try.func8, Try.ntmps8
  go_wp2_with fail
  refine (awake_any _).mono ?_
  rintro e w1 ⟨rfl, hbel⟩
  go_wp2_with fail
  refine (put_any [] [a0] none (some ⟨w1.heap.size, 0, none⟩) 0 0 1 1 _ (RowIn.ofNil _ _) ?_ ?_ ?_).mono ?_
  · exact RowIn.lit _ _ _ _ _ _ _ _ [a0] rfl rfl rfl (by simp [maxLen])
  · intro n hn; simp at hn; subst hn; exact hA
  · omega
  rintro e w2 ⟨rfl, hown2, hbel2⟩
  have hx2 : Hid (RowIn .u8 w2 (some ⟨w1.heap.size + 1, 0, none⟩) 8 8 (be8 a0)) := by
    have := RowIn.owned (k := .u8) (zs := be8 a0) (n := 8) (cap := 8) hown2
    simpa [Hid] using this
  have hb2 : Hid (Below w.heap.size w w2) := hbel.trans (((Below.refl _ _).alloc hbel.size _).trans (hbel2.mono (by simp; have := hbel.size; omega)))
  have hz2 := hbel2.size
  simp only [World.size_alloc] at hz2
  clear hown2 hbel2
  go_wp2_with fail
  refine (put_any [] [a1] none (some ⟨w2.heap.size, 0, none⟩) 0 0 1 1 _ (RowIn.ofNil _ _) ?_ ?_ ?_).mono ?_
  · exact RowIn.lit _ _ _ _ _ _ _ _ [a1] rfl rfl rfl (by simp [maxLen])
  · intro n hn; simp at hn; subst hn; exact hB
  · omega
  rintro e w3 ⟨rfl, hown3, hbel3⟩
  have hx3 : Hid (RowIn .u8 w3 (some ⟨w2.heap.size + 1, 0, none⟩) 8 8 (be8 a1)) := by
    have := RowIn.owned (k := .u8) (zs := be8 a1) (n := 8) (cap := 8) hown3
    simpa [Hid] using this
  have hx2' : Hid (RowIn .u8 w3 (some ⟨w1.heap.size + 1, 0, none⟩) 8 8 (be8 a0)) := (hx2.out.alloc _).below hbel3
  have hb3 : Hid (Below w.heap.size w w3) := hb2.out.trans (((Below.refl _ _).alloc hb2.out.size _).trans (hbel3.mono (by simp; have := hb2.out.size; omega)))
  clear hown3 hbel3 hx2 hz2
  go_wp2_with fail
  refine (first_any (be8 a0) (be8 a1) _ _ 8 8 8 8 _ hx2'.out hx3.out).mono ?_
  rintro e w4 ⟨rfl, nq, rfl⟩
  by_cases hab : a0 = a1
  · subst hab
    rw [parts_same]
    go_wp2
    go_ret
    exact ⟨rfl, below_drewN hb3.out _⟩
  · obtain ⟨k, hk, hp, hor⟩ := part8 a0 a1 hA hB hab
    rw [hp]
    clear hp
    obtain ⟨_, _, e1, _, c1⟩ := hx2'.out.cell k hk
    obtain ⟨_, _, e2, _, c2⟩ := hx3.out.cell k hk
    cases e1
    cases e2
    rw [Nat.zero_add] at c1 c2
    have hb : (a0 == a1) = false := by simpa using hab
    generalize (be8 a0).getD k 0 = x at *
    generalize (be8 a1).getD k 0 = y at *
    have hki : (k : Int) < 8 := by omega
    rcases hor with ⟨hxy, hlt⟩ | ⟨hxy, hlt⟩
    · have d1 : decide (y < x) = false := by simp; omega
      have d2 : decide (a1 < a0) = false := by simp; omega
      go_wp2
      go_quiet (fail)
      go_wp2
      go_ret
      exact ⟨rfl, below_drewN (below_drewN hb3.out _) _⟩
    · go_wp2
      go_quiet (fail)
      go_wp2
      go_ret
      exact ⟨rfl, below_drewN (below_drewN hb3.out _) _⟩
  -- go_enter Try.func8, Try.ntmps8
  -- go_wp2
  -- go_ret
  -- exact ⟨rfl, by repeat (first | exact Grown.refl _ | apply Grown.drew | apply Grown.alloc)⟩

set_option maxRecDepth 100000 in
theorem lifted (os : Os) (started : os.Started) (H : Type) (enc : TypeId × Value → H) :
    ReturnsInHanded {} Try.checked os 8 .any (Rows.octetOrderSpec.pre6 enc Try.prog Try.f8 Rows.octetOrderRow.domain false) (Rows.octetOrderSpec.post enc Try.prog Try.f8 false true false false) := by
  refine returnsInHanded_of_change (C := Try.checked) own started (by kernel_rfl) Try.func8
    (ChangeSpec.witness6 (enc := enc) (C := Try.checked) false ⟨#[], #[.int .u64 0, .int .u64 0], []⟩ 8 (by kernel_rfl) (by kernel_rfl) (by kernel_rfl) (by kernel_rfl)) ?_
  intro W base args ds gs before hval0 hW hcnd _
  have hval : ∀ (j : Nat) t v, Try.f8.params[j]? = some t → args[j]? = some v → Value.okWide Try.prog W .any base t v := hval0
  have hW' := hW
  obtain ⟨p, q, hA0, hV, rfl, hfz, hnd⟩ := hW
  have hA : DataW.TrodAll enc Try.prog W 0 (fun _ => true) true Try.f8.params.toList args.toList ds p := hA0
  rw [Try.params8] at hA hval
  obtain ⟨v0, vs0, d0, ds0, p0, q0, hargs, rfl, rfl, h0, r0⟩ := trodAll_cons hA
  obtain ⟨v1, vs1, d1, ds1, p1, q1, rfl, rfl, rfl, h1, r1⟩ := trodAll_cons r0
  obtain ⟨rfl, rfl, rfl⟩ := trodAll_nil r1
  obtain rfl : args = #[v0, v1] := by cases args; simp_all
  obtain ⟨rfl, rfl⟩ := trodVars_none hV
  obtain ⟨a0, rfl, rfl, rfl, w0⟩ := open_int Try.underlying26 (hval 0 26 v0 rfl rfl) h0
  obtain ⟨a1, rfl, rfl, rfl, w1⟩ := open_int Try.underlying26 (hval 1 26 v1 rfl rfl) h1
  clear hA0 hval0
  refine (walk a0 a1 w0 w1 W).mono fun e W' ⟨he, hg⟩ => ?_
  subst he
  exact ⟨_, rfl, _, _, _, [], _, [], hW', (trodAll_cons_mk (shut_bool Try.underlying4 _) trodAll_mk0), (trodAll_cons_mk (shut_int Try.underlying26 w0) (trodAll_cons_mk (shut_int Try.underlying26 w1) trodAll_mk0)), rfl, hg.frame _, fun h => by cases h⟩

theorem over : Rows.octetOrderRow.holds Try.pinned (OpenSpec.ofChange Rows.octetOrderSpec) :=
  OpenClaim.holds_of_wide 8 Try.f8 rfl rfl rfl rfl rfl rfl rfl ⟨rfl, rfl, rfl, rfl, rfl⟩ rfl rfl rfl rfl rfl (by kernel_rfl) Try.func8 (by kernel_rfl)
    (of_decide_eq_true (by kernel_rfl)) (by unfold Func.isWrapper; first | (rw [if_pos (by decide +kernel)]; kernel_rfl) | (rw [if_neg (by decide +kernel)]; exact ⟨rfl, rfl⟩))
    (fun os started H enc _ => lifted os started H enc)

theorem proved : Rows.OctetOrderSaid :=
  over
end Go.Proofs.Ytkcjeholgeneoaa.octetOrder

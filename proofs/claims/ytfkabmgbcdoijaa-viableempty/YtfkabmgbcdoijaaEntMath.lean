/- Entries, plainly: what is told of them by cases. -/
import Derived.Test.YtfkabmgbcdoijaaEntAwake

import Derived.WalkSmall

namespace Go.Proofs.Ytfkabmgbcdoijaa

set_option linter.unusedVariables false

theorem entK_rep (n k : Nat) : entK (List.replicate n Ent.zero) k = Ent.zero := by
  unfold entK
  rw [List.getD_eq_getElem?_getD, List.getElem?_replicate]
  split <;> rfl
theorem ct_nat (es : List Ent) (k : Nat) (hk : k < es.length) : ctB es (k : Int) = !(entK es k).b := by
  unfold ctB isB
  rw [decide_eq_true (by omega), Int.toNat_natCast]
  rfl
theorem take_nat (es : List Ent) (k : Nat) (hk : k < es.length) (x : Ent) (hx : entK es k = x) (ep : Int) : takeB es (k : Int) ep = (!x.b && !(x.h && decide (ep ≤ x.e))) := by
  subst hx
  unfold takeB
  rw [ct_nat es k hk, Int.toNat_natCast]
theorem takeE_nat (es : List Ent) (k : Nat) (hk : k < es.length) (ep r : Int) (h : takeB es (k : Int) ep = true) : takeE es (k : Int) ep r = es.set k ⟨true, ep, r, false⟩ := by
  unfold takeE
  rw [h, Int.toNat_natCast]
  rfl
theorem takeE_no (es : List Ent) (who : Int) (ep r : Int) (h : takeB es who ep = false) : takeE es who ep r = es := by
  unfold takeE
  rw [h]
  rfl
theorem banE_nat (es : List Ent) (k : Nat) (hk : k < es.length) (x : Ent) (hx : entK es k = x) : banE es (k : Int) = es.set k ⟨x.h, x.e, x.r, true⟩ := by
  subst hx
  unfold banE
  rw [ct_nat es k hk, Int.toNat_natCast]
  cases hb : (entK es k).b
  · rfl
  · show es = _
    rw [← hb]
    exact (set_self es k).symm
theorem banE_no (es : List Ent) (who : Int) (h : ctB es who = false) : banE es who = es := by
  unfold banE
  rw [h]
  rfl
theorem get_nat (es : List Ent) (k : Nat) (hk : k < es.length) (x : Ent) (hx : entK es k = x) : getB' es (k : Int) = (!x.b && x.h) ∧ getR es (k : Int) = if x.b = false ∧ x.h = true then x.r else 0 := by
  subst hx
  have e : getB' es (k : Int) = (!(entK es k).b && (entK es k).h) := by unfold getB'; rw [ct_nat es k hk, Int.toNat_natCast]
  refine ⟨e, ?_⟩
  unfold getR
  rw [e, Int.toNat_natCast]
  cases (entK es k).b <;> cases (entK es k).h <;> rfl
theorem ct_out (es : List Ent) (who : Int) (h : ¬ (0 ≤ who ∧ who < es.length)) : ctB es who = false := by
  unfold ctB isB
  rw [decide_eq_false h]
  rfl
theorem take_out (es : List Ent) (who ep : Int) (h : ¬ (0 ≤ who ∧ who < es.length)) : takeB es who ep = false := by
  unfold takeB
  rw [ct_out es who h]
  rfl
theorem get_out (es : List Ent) (who : Int) (h : ¬ (0 ≤ who ∧ who < es.length)) : getB' es who = false ∧ getR es who = 0 := by
  have e : getB' es who = false := by unfold getB'; rw [ct_out es who h]; rfl
  refine ⟨e, ?_⟩
  unfold getR
  rw [e]
  rfl
theorem sizeE_b (n : Int) : sizeE n ≤ 4096 := by unfold sizeE; split <;> split <;> omega
theorem sizeE_of (n : Int) (h : 0 ≤ n ∧ n ≤ 4096) : sizeE n = n.toNat := by unfold sizeE; split <;> split <;> omega
theorem sizeE_cases (n : Int) : (n ≤ 0 → (sizeE n : Int) = 0) ∧ (4096 < n → (sizeE n : Int) = 4096) ∧ (0 ≤ n → n ≤ 4096 → n = (sizeE n : Int)) := by
  unfold sizeE
  refine ⟨fun h => ?_, fun h => ?_, fun h h' => ?_⟩
  all_goals split
  all_goals split
  all_goals omega
theorem wf_u8e {a : Int} (h : (Lit.int .u8 a).wf = true) : 0 ≤ a ∧ a ≤ 255 := by
  simpa [Lit.wf, IntKind.min, IntKind.max, IntKind.signed, IntKind.bits] using h
theorem wf_i8e {a : Int} (h : (Lit.int .i8 a).wf = true) : -128 ≤ a ∧ a ≤ 127 := by
  simpa [Lit.wf, IntKind.min, IntKind.max, IntKind.signed, IntKind.bits] using h
end Go.Proofs.Ytfkabmgbcdoijaa

/- Regions that draw their order, walked by hand at the world in hand (calls and new blocks branch), whose last operation (number z, for which all others wait) may break what is held of the worlds. Nothing of the program. -/
import Derived.Test.YtphahkjjmomjcaaRegG

namespace Go.Proofs.Ytphahkjjmomjcaa

open Go

set_option linter.unusedVariables false

section

variable {P : Program} {ops : Array Oper} {Q : Exit → Act → World → Prop} {md : Region.Mode} {S : World → Prop} {z : Nat}
/-- whatever order is picked from here on; S holds behind every operation but z, the last one -/
def wpAnyZ (P : Program) (md : Region.Mode) (ops : Array Oper) (Q : Exit → Act → World → Prop) (S : World → Prop) (z : Nat) : Nat → Array Bool → Act → World → Prop
  | 0, L, a, w => Region.ready md ops L = [] ∧ Q .normal a w
  | fuel + 1, L, a, w =>
    (Region.ready md ops L = [] → Q .normal a w) ∧
    (∀ i ∈ Region.ready md ops L, i ≠ z → wpOp P ops Q i (fun a' w' => S w' ∧ wpAnyZ P md ops Q S z fuel (L.setIfInBounds i true) a' w') a w) ∧
    (z ∈ Region.ready md ops L → wpOp P ops Q z (fun a' w' => wpAny P md ops Q fuel (L.setIfInBounds z true) a' w') a w)
theorem wpAny_of_Z : ∀ (fuel : Nat) (L : Array Bool) (a : Act) (w : World), wpAnyZ P md ops Q S z fuel L a w → wpAny P md ops Q fuel L a w
  | 0, _, _, _, h => h
  | fuel + 1, _, _, _, h => ⟨h.1, fun i hi => by
    by_cases hz : i = z
    · subst hz; exact h.2.2 hi
    · exact wpOp_mono (fun a' w' h' => wpAny_of_Z fuel _ a' w' h'.2) (h.2.1 i hi hz)⟩
/-- an operation that may come up now may be taken first -/
theorem wpAnyZ_first {i : Nat} {oi : Oper} {v : Value} (hi : ops[i]? = some oi) (hsel : ∀ (j : Nat) (o : Oper) cs b, ops[j]? = some o → o.op ≠ .select cs b)
    (hQ : ∀ c a w, Q (.panic c) (a.put oi.dst v) w → Q (.panic c) a w) (hw : allWait md ops z = true) (hlt : i < z) :
    ∀ (fuel : Nat) (L : Array Bool) (a : Act) (w : World), Closed md ops L →
      (∀ j oj, ops[j]? = some oj → j ≠ i → L.getD j true = false → (∀ e ∈ oj.after, Region.binds md e = true → e.on ≠ i) → oi.apart ops oj = true) →
      i ∈ Region.ready md ops L → YieldsIf P ops S oi v a → S w →
      wpAnyZ P md ops Q S z fuel (L.setIfInBounds i true) (a.put oi.dst v) w → wpAnyZ P md ops Q S z (fuel + 1) L a w := by
  have noz : ∀ L, Closed md ops L → i ∈ Region.ready md ops L → ¬ z ∈ Region.ready md ops L := fun L hc hir hz =>
    Bool.false_ne_true ((unlisted hir).symm.trans (closed_all hw hc hz (z - i) i (by omega) (by omega)))
  intro fuel
  induction fuel with
  | zero =>
    intro L a w hc _ hr hy hS H
    refine ⟨fun h => absurd (h ▸ hr) List.not_mem_nil, fun j hj _ => ?_, fun hz => absurd hz (noz L hc hr)⟩
    rcases Decidable.em (j = i) with rfl | hne
    · exact hy.wpOp hi hS ⟨hS, H⟩
    · have := ready_mono hj hne
      rw [H.1] at this
      exact absurd this List.not_mem_nil
  | succ fuel ih =>
    intro L a w hc hfree hr hy hS H
    refine ⟨fun h => absurd (h ▸ hr) List.not_mem_nil, fun j hj hjz => ?_, fun hz => absurd hz (noz L hc hr)⟩
    rcases Decidable.em (j = i) with rfl | hne
    · exact hy.wpOp hi hS ⟨hS, H⟩
    obtain ⟨hun, oj, hoj, hdeps⟩ := mem_ready.1 hj
    have hnot : ∀ e ∈ oj.after, Region.binds md e = true → e.on ≠ i := by
      intro e he hb rfl
      exact Bool.false_ne_true ((unlisted hr).symm.trans (hdeps e he hb))
    have hstep := wpOp_putIf (S := S) hoj (hfree j oj hoj hne hun hnot) (fun cs b => hsel i oi cs b hi) (fun cs b => hsel j oj cs b hoj) hQ hy (H.2.1 j (ready_mono hj hne) hjz)
    refine wpOp_mono (fun a' w' hk => ?_) hstep
    obtain ⟨hy', hS', hG⟩ := hk
    rw [Array.setIfInBounds_comm _ _ (Ne.symm hne)] at hG
    refine ⟨hS', ih _ a' w' (hc.set hj) (fun k ok hk hki hku hkn => hfree k ok hk hki ?_ hkn) (ready_mono hr (Ne.symm hne)) hy' hS' hG⟩
    rcases Decidable.em (j = k) with rfl | hjk
    · exact hun
    · rwa [getD_set_ne true hjk] at hku
/-- the walk: who has come up waits for nobody -/
def GoZ (P : Program) (md : Region.Mode) (ops : Array Oper) (Q : Exit → Act → World → Prop) (S : World → Prop) (z : Nat) (fuel : Nat) (L : Array Bool) (a : Act) (w : World) : Prop := Closed md ops L → wpAnyZ P md ops Q S z fuel L a w
theorem startZ {id : Nat} {a : Act} {w : World} (S : World → Prop) (z : Nat) (hm : P.follows .mixedOrders = true) (h : GoZ P .any ops Q S z ops.size (Array.replicate ops.size false) a w.drew) : (Code.region id ops true).wp P Q a w :=
  wp_region_any hm (wpAny_of_Z _ _ _ _ (h (closed_none _)))
/-- an operation is taken first; the frame is laid out as a list -/
theorem takeZ {i d : Nat} {oi : Oper} {v : Value} {fuel : Nat} {L : Array Bool} {t : List Value} {df : List Deferred} {w : World} (hi : ops[i]? = some oi) (hd : oi.dst = some d)
    (hs : Region.noSelect ops = true) (hf : Region.free md ops L i = true) (hr : (Region.ready md ops L).contains i = true) (hz : (allWait md ops z && decide (i < z)) = true)
    (hQ : ∀ c a w, Q (.panic c) (Act.put a oi.dst v) w → Q (.panic c) a w) (hy : YieldsIf P ops S oi v ⟨t.toArray, df⟩) (hS : S w)
    (h : GoZ P md ops Q S z fuel (L.setIfInBounds i true) ⟨(t.set d v).toArray, df⟩ w) : GoZ P md ops Q S z (fuel + 1) L ⟨t.toArray, df⟩ w := by
  intro hc
  rw [Bool.and_eq_true, decide_eq_true_eq] at hz
  have hr' : i ∈ Region.ready md ops L := by simpa using hr
  have e : Act.put ⟨t.toArray, df⟩ (some d) v = ⟨(t.set d v).toArray, df⟩ := by simp [Act.put]
  have h1 := h (hc.set hr')
  rw [← e, ← hd] at h1
  exact wpAnyZ_first hi (Region.noSelect_spec hs) hQ hz.1 hz.2 fuel L _ w hc (Region.free_spec hi hf) hr' hy hS h1
/-- each one that may come up now, if z is none of them -/
inductive AllZ (P : Program) (md : Region.Mode) (ops : Array Oper) (Q : Exit → Act → World → Prop) (S : World → Prop) (z fuel : Nat) (L : Array Bool) (a : Act) (w : World) : List Nat → Prop
  | nil : AllZ P md ops Q S z fuel L a w []
  | cons {i : Nat} {o : Oper} {rs : List Nat} (ho : ops[i]? = some o) (h : ∀ K : Act → World → Prop, Shut (∀ a' w', S w' → (S w' → GoZ P md ops Q S z fuel (L.setIfInBounds i true) a' w') → K a' w') → if Region.wanted o (yielded ops a.tmps) = true then Oper.wp P o a w K Q else K (a.put o.dst undef) w)
      (hr : AllZ P md ops Q S z fuel L a w rs) : AllZ P md ops Q S z fuel L a w (i :: rs)
theorem readyZ {rs : List Nat} {fuel : Nat} {L : Array Bool} {a : Act} {w : World} (hr : Region.ready md ops L = rs) (hne : (decide (rs ≠ []) && !rs.contains z) = true) (h : AllZ P md ops Q S z fuel L a w rs) : GoZ P md ops Q S z (fuel + 1) L a w := by
  intro hc
  rw [Bool.and_eq_true, decide_eq_true_eq] at hne
  have hz : ¬ z ∈ rs := by simpa using hne.2
  refine ⟨fun h0 => absurd (hr ▸ h0) hne.1, fun i hi _ => ?_, fun hh => absurd (hr ▸ hh) hz⟩
  have hi0 := hi
  rw [hr] at hi
  clear hr hne hz
  induction h with
  | nil => cases hi
  | @cons j o rs ho hh _ ih =>
    rcases List.mem_cons.1 hi with rfl | hi
    · exact wpOp_step ho fun K hK => hh K fun a' w' hS hG => hK a' w' ⟨hS, hG hS (hc.set hi0)⟩
    · exact ih hi
/-- the last one comes up -/
theorem lastZ {fuel : Nat} {L : Array Bool} {a : Act} {w : World} {oz : Oper} (hr : Region.ready md ops L = [z]) (ho : ops[z]? = some oz) (hr2 : Region.ready md ops (L.setIfInBounds z true) = [])
    (h : ∀ K : Act → World → Prop, Shut (∀ a w, Q .normal a w → K a w) → if Region.wanted oz (yielded ops a.tmps) = true then Oper.wp P oz a w K Q else K (a.put oz.dst undef) w) : GoZ P md ops Q S z (fuel + 1) L a w := fun _ =>
  ⟨fun h0 => (by rw [h0] at hr; cases hr), fun i hi hz => by rw [hr] at hi; simp at hi; exact absurd hi hz, fun _ => wpOp_step ho fun K hK => h K fun a' w' hq => hK a' w' (by
    cases fuel with
    | zero => exact ⟨hr2, hq⟩
    | succ fuel => exact ⟨fun _ => hq, fun i hi => by rw [hr2] at hi; cases hi⟩)⟩
end
end Go.Proofs.Ytphahkjjmomjcaa

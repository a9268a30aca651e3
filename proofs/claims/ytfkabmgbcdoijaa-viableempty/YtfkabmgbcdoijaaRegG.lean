/- Regions that draw their order, of whose worlds one condition alone is known: what yields one value in every world that meets it may be taken first, a call that makes memory too. The last operation (number z, for which all others wait) may break the condition. Nothing of the program. -/
import Derived.OrdersHeld

import Derived.Deep.RegionHeld

import Derived.Deep.RegionHeld3

namespace Go.Proofs.Ytfkabmgbcdoijaa

open Go

set_option linter.unusedVariables false

section

variable {P : Program} {ops : Array Oper} {Q : Exit → Act → World → Prop} {md : Region.Mode} {S : World → Prop} {z : Nat}

/-- what an operation does: it leaves v, in a world that meets T -/
def Does (P : Program) (o : Oper) (ρ : Operand → Value) (v : Value) (w : World) (T : World → Prop) : Prop :=
  (∃ w', (execOp ρ o).run P w = .ok (.value v) w' ∧ T w') ∨ (v = undef ∧ ∃ w', (execOp ρ o).run P w = .ok .skip w' ∧ T w') ∨
  (∃ f args w1, (execOp ρ o).run P w = .ok (.enter f args) w1 ∧ Calls P f args w1 fun e w' => e = .returned v ∧ T w') ∨
  (∃ r args w1, (execOp ρ o).run P w = .ok (.row r args) w1 ∧ Rows P r args w1 fun u w' => u = v ∧ T w')
theorem Does.wp {o : Oper} {a : Act} {v : Value} {w : World} {T : World → Prop} {K : Act → World → Prop} (h : Does P o a.eval v w T) (hK : ∀ w', T w' → K (a.put o.dst v) w') : Oper.wp P o a w K Q := by
  unfold Oper.wp
  rcases h with ⟨w', h1, h2⟩ | ⟨rfl, w', h1, h2⟩ | ⟨f, args, w1, h1, h2⟩ | ⟨r, args, w1, h1, h2⟩
  · rw [h1]; exact hK _ h2
  · rw [h1]; exact hK _ h2
  · rw [h1]
    refine Calls.mono h2 fun e w' he => ?_
    obtain ⟨rfl, ht⟩ := he
    exact hK _ ht
  · rw [h1]
    refine Rows.mono h2 fun u w' he => ?_
    obtain ⟨rfl, ht⟩ := he
    exact hK _ ht
theorem put_inj {a : Act} {d : Tmp} {u v : Value} (hd : d < a.tmps.size) (h : a.put (some d) u = a.put (some d) v) : u = v := by
  have h1 := congrArg (fun x : Act => x.tmps[d]?) h
  simpa [Act.put, hd] using h1
/-- by its run, in a frame at hand -/
theorem doesOf {o : Oper} {a : Act} {v : Value} {w : World} {T : World → Prop} {d : Tmp} (hd : o.dst = some d) (hlt0 : decide (d < a.tmps.size) = true)
    (h : ∀ K : Act → World → Prop, Shut (∀ w', T w' → K (a.put (some d) v) w') → Oper.wp P o a w K (fun _ _ _ => False)) : Does P o a.eval v w T := by
  have hlt := of_decide_eq_true hlt0
  have h1 := h (fun a' w' => a' = a.put (some d) v ∧ T w') (fun w' ht => ⟨rfl, ht⟩)
  unfold Oper.wp at h1
  unfold Does
  generalize (execOp a.eval o).run P w = r at *
  cases r with
  | ok n w' =>
    cases n <;> simp only [Oper.upon, hd] at h1
    case value u => exact .inl ⟨w', by rw [put_inj hlt h1.1], h1.2⟩
    case skip => exact .inr (.inl ⟨(put_inj hlt h1.1).symm, w', rfl, h1.2⟩)
    case defer x =>
      have := congrArg (fun a : Act => a.defers.length) h1.1
      simp [Act.put] at this
    case enter f args =>
      refine .inr (.inr (.inl ⟨f, args, w', rfl, Calls.mono h1 fun e w'' he => ?_⟩))
      cases e with
      | returned u => exact ⟨by rw [put_inj hlt he.1], he.2⟩
      | panicked c => exact he.elim
      | outgrown => exact absurd he (by unfold LetsOut; simp)
    case row r args => exact .inr (.inr (.inr ⟨r, args, w', rfl, Rows.mono h1 fun u w'' he => ⟨put_inj hlt he.1, he.2⟩⟩))
  | halt x w' => cases x <;> simp only [Oper.upon] at h1
/-- a load, by its run -/
theorem doesLoad {o : Oper} {ρ : Operand → Value} {w : World} {T : World → Prop} (ty : TypeId) (x : Operand) (ho : o.op = .load ty x) (v r : Value) (hx : ρ x = v) (hrun : (Instr.loadAt ty v).run P w = .ok r w) (hT : T w) : Does P o ρ r w T := by
  refine .inl ⟨w, ?_, hT⟩
  unfold execOp
  simp only [ho, hx, Sem.run_bind, Result.andThen_ok, hrun]
  rfl
/-- in every world that meets S operation o leaves v, and S holds again -/
def YieldsG (P : Program) (ops : Array Oper) (S : World → Prop) (o : Oper) (v : Value) (a : Act) : Prop :=
  (Region.wanted o (yielded ops a.tmps) = true ∧ ∀ w, S w → Does P o a.eval v w S) ∨ (Region.wanted o (yielded ops a.tmps) = false ∧ v = undef)
theorem YieldsG.wpOp {i : Nat} {o : Oper} {v : Value} {a : Act} (hi : ops[i]? = some o) (hy : YieldsG P ops S o v a)
    {K : Act → World → Prop} {w : World} (hS : S w) (h : ∀ w', S w' → K (a.put o.dst v) w') : wpOp P ops Q i K a w := by
  unfold Go.wpOp
  simp only [hi]
  rcases hy with ⟨hw, hv⟩ | ⟨hw, rfl⟩
  · simp only [hw, if_true]; exact .inl ((hv w hS).wp h)
  · simp only [hw, Bool.false_eq_true, if_false]; exact h _ hS
theorem YieldsG.of_same {o : Oper} {v : Value} {a a' : Act} (hy : YieldsG P ops S o v a) (he : execOp a'.eval o = execOp a.eval o)
    (hw : Region.wanted o (yielded ops a'.tmps) = Region.wanted o (yielded ops a.tmps)) : YieldsG P ops S o v a' := by
  unfold YieldsG Does at *
  rw [he, hw]
  exact hy
/-- behind an operation the frame differs in its slot alone (and in what is put off) -/
theorem wpOp_shape {j : Nat} {oj : Oper} (hj : ops[j]? = some oj) {K : Act → World → Prop} {a : Act} {w : World} (h : wpOp P ops Q j K a w) :
    wpOp P ops Q j (fun a' w' => (∃ u df, a' = { a.put oj.dst u with defers := df }) ∧ K a' w') a w := by
  have e : ∀ u, a.put oj.dst u = { a.put oj.dst u with defers := a.defers } := fun u => by cases oj.dst <;> rfl
  unfold wpOp at h ⊢
  rw [hj] at h ⊢
  by_cases hw : Region.wanted oj (yielded ops a.tmps) = true
  · simp only [hw, if_true] at h ⊢
    refine h.elim (fun h => .inl ?_) .inr
    unfold Oper.wp at h ⊢
    revert h
    generalize (execOp a.eval oj).run P w = r
    intro h
    match r, h with
    | .ok (.value v) w', h => exact ⟨⟨v, _, e v⟩, h⟩
    | .ok .skip w', h => exact ⟨⟨undef, _, e undef⟩, h⟩
    | .ok (.defer d) w', h => exact ⟨⟨undef, d :: a.defers, by cases oj.dst <;> rfl⟩, h⟩
    | .ok (.enter f args) w', h =>
      refine Calls.mono h fun x w2 hx => ?_
      match x, hx with
      | .returned v, hx => exact ⟨⟨v, _, e v⟩, hx⟩
      | .panicked c, hx => exact hx
      | .outgrown, hx => exact hx
    | .ok (.row f args) w', h => exact Rows.mono h fun v w2 hx => ⟨⟨v, _, e v⟩, hx⟩
    | .halt (.panic v) w', h => exact h
  · simp only [hw] at h ⊢
    exact ⟨⟨undef, _, e undef⟩, h⟩
/-- one operation beside one that yields: by the kit's law on a plain move of the value -/
theorem wpOp_putG {j : Nat} {oi oj : Oper} {v : Value} (hj : ops[j]? = some oj) (hap : oi.apart ops oj = true)
    (hsi : ∀ cs b, oi.op ≠ .select cs b) (hsj : ∀ cs b, oj.op ≠ .select cs b)
    (hQ : ∀ c a w, Q (.panic c) (a.put oi.dst v) w → Q (.panic c) a w) {K : Act → World → Prop} {a : Act} {w : World}
    (hy : YieldsG P ops S oi v a) (h : wpOp P ops Q j K (a.put oi.dst v) w) :
    wpOp P ops Q j (fun a' w' => YieldsG P ops S oi v a' ∧ K (a'.put oi.dst v) w') a w := by
  obtain ⟨om, hom⟩ : ∃ o : Oper, o = { dst := oi.dst, op := .move (.const v), type := oi.type, pos := "", after := #[], guard := none } := ⟨_, rfl⟩
  have hd : om.dst = oi.dst := by rw [hom]
  have hlook : om.looksAt ops = [] := by rw [hom]; rfl
  have hapm : om.apart ops oj = true := by
    unfold Oper.apart at hap ⊢
    rw [Bool.and_eq_true] at hap ⊢
    rw [hd, hlook]
    exact ⟨hap.1, by cases oj.dst <;> rfl⟩
  have hym : Yields P ops om v a := .inl ⟨by rw [hom]; rfl, fun w => by rw [hom]; rfl⟩
  rw [← hd] at h hQ
  have h1 := wpOp_shape hj (wpOp_put hj hapm (fun cs b => by rw [hom]; simp) hsj hQ hym h)
  refine wpOp_mono (fun a' w' hh => ?_) h1
  obtain ⟨⟨u, df, rfl⟩, _, hk⟩ := hh
  rw [hd] at hk
  have h3 := (Oper.apart_spec hap).2.2
  exact ⟨hy.of_same (execOp_put oi hsi a oj.dst u h3) (wanted_put oi a oj.dst u h3), hk⟩

/-- whoever has come up, all for whom it waits have -/
def Closed (md : Region.Mode) (ops : Array Oper) (L : Array Bool) : Prop := ∀ j o, ops[j]? = some o → L.getD j false = true → ∀ e ∈ o.after, Region.binds md e = true → L.getD e.on false = true
theorem Closed.set {L : Array Bool} {i : Nat} (h : Closed md ops L) (hi : i ∈ Region.ready md ops L) : Closed md ops (L.setIfInBounds i true) := by
  intro j o hj hl e he hb
  apply getD_set_true
  by_cases hij : i = j
  · subst hij
    obtain ⟨_, o', ho', hall⟩ := mem_ready.1 hi
    rw [hj] at ho'
    cases ho'
    exact hall e he hb
  · rw [getD_set_ne false hij] at hl
    exact h j o hj hl e he hb
/-- for operation z all others wait: each for one behind it, directly -/
def allWait (md : Region.Mode) (ops : Array Oper) (z : Nat) : Bool :=
  (List.range z).all fun i => (List.range (z + 1)).any fun k => decide (i < k) && ((ops[k]?).map fun o => o.after.toList.any fun e => Region.binds md e && (e.on == i)).getD false
theorem closed_all {L : Array Bool} (hw : allWait md ops z = true) (hc : Closed md ops L) (hz : z ∈ Region.ready md ops L) : ∀ n i, i + n = z → 0 < n → L.getD i false = true := by
  intro n
  induction n using Nat.strongRecOn with
  | ind n ih =>
    intro i hi hn
    unfold allWait at hw
    rw [List.all_eq_true] at hw
    have h1 := hw i (by rw [List.mem_range]; omega)
    rw [List.any_eq_true] at h1
    obtain ⟨k, hk, h2⟩ := h1
    rw [List.mem_range] at hk
    rw [Bool.and_eq_true, decide_eq_true_eq] at h2
    cases ho : ops[k]? with
    | none => rw [ho] at h2; simp at h2
    | some o =>
      rw [ho] at h2
      simp only [Option.map_some, Option.getD_some] at h2
      obtain ⟨hlt, h3⟩ := h2
      rw [List.any_eq_true] at h3
      obtain ⟨e, he, hb⟩ := h3
      rw [Bool.and_eq_true, beq_iff_eq] at hb
      obtain ⟨hb, rfl⟩ := hb
      replace he : e ∈ o.after := Array.mem_toList_iff.1 he
      by_cases hkz : k = z
      · subst hkz
        obtain ⟨_, o', ho', hall⟩ := mem_ready.1 hz
        rw [ho] at ho'
        cases ho'
        exact hall e he hb
      · have := ih (z - k) (by omega) k (by omega) (by omega)
        exact hc k o ho this e he hb

/-- who may come up has not -/
theorem unlisted {L : Array Bool} {i : Nat} (h : i ∈ Region.ready md ops L) : L.getD i false = false := by
  have h0 := (mem_ready.1 h).1
  rw [Array.getD_eq_getD_getElem?] at h0 ⊢
  cases hL : L[i]? with
  | none => rfl
  | some b => rw [hL] at h0; exact h0
/-- whatever order is picked from here on, of the worlds S alone known; z is the last one -/
def wpAnyG (P : Program) (md : Region.Mode) (ops : Array Oper) (Q : Exit → Act → World → Prop) (S : World → Prop) (z : Nat) : Nat → Array Bool → Act → Prop
  | 0, L, a => Region.ready md ops L = [] ∧ ∀ w, S w → Q .normal a w
  | fuel + 1, L, a =>
    (Region.ready md ops L = [] → ∀ w, S w → Q .normal a w) ∧
    (∀ i ∈ Region.ready md ops L, i ≠ z → ∀ w, S w → wpOp P ops Q i (fun a' w' => S w' ∧ wpAnyG P md ops Q S z fuel (L.setIfInBounds i true) a') a w) ∧
    (z ∈ Region.ready md ops L → ∀ w, S w → wpOp P ops Q z (fun a' w' => wpAny P md ops Q fuel (L.setIfInBounds z true) a' w') a w)
theorem wpAny_of_G : ∀ (fuel : Nat) (L : Array Bool) (a : Act) (w : World), S w → wpAnyG P md ops Q S z fuel L a → wpAny P md ops Q fuel L a w
  | 0, _, _, w, hS, h => ⟨h.1, h.2 w hS⟩
  | fuel + 1, L, a, w, hS, h => ⟨fun h0 => h.1 h0 w hS, fun i hi => by
    by_cases hz : i = z
    · subst hz; exact h.2.2 hi w hS
    · exact wpOp_mono (fun a' w' h' => wpAny_of_G fuel _ a' w' h'.1 h'.2) (h.2.1 i hi hz w hS)⟩
/-- an operation that may come up now may be taken first -/
theorem wpAnyG_first {i : Nat} {oi : Oper} {v : Value} (hi : ops[i]? = some oi) (hsel : ∀ (j : Nat) (o : Oper) cs b, ops[j]? = some o → o.op ≠ .select cs b)
    (hQ : ∀ c a w, Q (.panic c) (a.put oi.dst v) w → Q (.panic c) a w) (hw : allWait md ops z = true ∨ ops[z]? = none) (hiz : i ≠ z) (hlt : ops[z]? = none ∨ i < z) :
    ∀ (fuel : Nat) (L : Array Bool) (a : Act), Closed md ops L →
      (∀ j oj, ops[j]? = some oj → j ≠ i → L.getD j true = false → (∀ e ∈ oj.after, Region.binds md e = true → e.on ≠ i) → oi.apart ops oj = true) →
      i ∈ Region.ready md ops L → YieldsG P ops S oi v a →
      wpAnyG P md ops Q S z fuel (L.setIfInBounds i true) (a.put oi.dst v) → wpAnyG P md ops Q S z (fuel + 1) L a := by
  have noz : ∀ L, Closed md ops L → i ∈ Region.ready md ops L → ¬ z ∈ Region.ready md ops L := by
    intro L hc hir hz
    rcases hlt with h | h
    · obtain ⟨_, o, ho, _⟩ := mem_ready.1 hz
      rw [h] at ho; cases ho
    · rcases hw with hw | hw
      · exact Bool.false_ne_true ((unlisted hir).symm.trans (closed_all hw hc hz (z - i) i (by omega) (by omega)))
      · obtain ⟨_, o, ho, _⟩ := mem_ready.1 hz
        rw [hw] at ho; cases ho
  intro fuel
  induction fuel with
  | zero =>
    intro L a hc _ hr hy H
    have only : ∀ j, j ∈ Region.ready md ops L → j = i := fun j hj => Classical.byContradiction fun hne => by
      have := ready_mono hj hne
      rw [H.1] at this
      exact absurd this List.not_mem_nil
    refine ⟨fun h => absurd (h ▸ hr) List.not_mem_nil, fun j hj _ w hS => ?_, fun hz => absurd hz (noz L hc hr)⟩
    obtain rfl := only j hj
    exact hy.wpOp hi hS fun w' hS' => ⟨hS', H⟩
  | succ fuel ih =>
    intro L a hc hfree hr hy H
    refine ⟨fun h => absurd (h ▸ hr) List.not_mem_nil, fun j hj hjz w hS => ?_, fun hz => absurd hz (noz L hc hr)⟩
    rcases Decidable.em (j = i) with rfl | hne
    · exact hy.wpOp hi hS fun w' hS' => ⟨hS', H⟩
    obtain ⟨hun, oj, hoj, hdeps⟩ := mem_ready.1 hj
    have hnot : ∀ e ∈ oj.after, Region.binds md e = true → e.on ≠ i := by
      intro e he hb rfl
      exact Bool.false_ne_true ((unlisted hr).symm.trans (hdeps e he hb))
    have hstep := wpOp_putG (S := S) hoj (hfree j oj hoj hne hun hnot) (fun cs b => hsel i oi cs b hi) (fun cs b => hsel j oj cs b hoj) hQ hy (H.2.1 j (ready_mono hj hne) hjz w hS)
    refine wpOp_mono (fun a' w' hk => ?_) hstep
    obtain ⟨hy', hS', hG⟩ := hk
    rw [Array.setIfInBounds_comm _ _ (Ne.symm hne)] at hG
    refine ⟨hS', ih _ a' (hc.set hj) (fun k ok hk hki hku hkn => hfree k ok hk hki ?_ hkn) (ready_mono hr (Ne.symm hne)) hy' hG⟩
    rcases Decidable.em (j = k) with rfl | hjk
    · exact hun
    · rwa [getD_set_ne true hjk] at hku
theorem closed_none (n : Nat) : Closed md ops (Array.replicate n false) := by
  intro j o _ h
  rw [Array.getD_eq_getD_getElem?, Array.getElem?_replicate] at h
  split at h <;> simp at h

/-- the walk: who has come up waits for nobody -/
def GoG (P : Program) (md : Region.Mode) (ops : Array Oper) (Q : Exit → Act → World → Prop) (S : World → Prop) (z : Nat) (fuel : Nat) (L : Array Bool) (a : Act) : Prop := Closed md ops L → wpAnyG P md ops Q S z fuel L a
/-- may z be the last one -/
def lastOk (md : Region.Mode) (ops : Array Oper) (z : Nat) : Bool := decide (ops.size ≤ z) || allWait md ops z
/-- the beginning -/
theorem startG {id : Nat} {a : Act} {w : World} (S : World → Prop) (z : Nat) (hm : P.follows .mixedOrders = true) (hS : S w.drew) (h : GoG P .any ops Q S z ops.size (Array.replicate ops.size false) a) : (Code.region id ops true).wp P Q a w :=
  wp_region_any hm (wpAny_of_G _ _ _ _ hS (h (closed_none _)))
/-- an operation is taken first; the frame is laid out as a list -/
theorem takeG {i d : Nat} {oi : Oper} {v : Value} {fuel : Nat} {L : Array Bool} {t : List Value} {df : List Deferred} (hi : ops[i]? = some oi) (hd : oi.dst = some d)
    (hs : Region.noSelect ops = true) (hf : Region.free md ops L i = true) (hr : (Region.ready md ops L).contains i = true) (hz : (lastOk md ops z && decide (i < z)) = true)
    (hQ : ∀ c a w, Q (.panic c) (Act.put a oi.dst v) w → Q (.panic c) a w) (hy : YieldsG P ops S oi v ⟨t.toArray, df⟩)
    (h : GoG P md ops Q S z fuel (L.setIfInBounds i true) ⟨(t.set d v).toArray, df⟩) : GoG P md ops Q S z (fuel + 1) L ⟨t.toArray, df⟩ := by
  intro hc
  rw [Bool.and_eq_true, decide_eq_true_eq] at hz
  have hr' : i ∈ Region.ready md ops L := by simpa using hr
  have e : Act.put ⟨t.toArray, df⟩ (some d) v = ⟨(t.set d v).toArray, df⟩ := by simp [Act.put]
  have h1 := h (hc.set hr')
  rw [← e, ← hd] at h1
  unfold lastOk at hz
  rw [Bool.or_eq_true, decide_eq_true_eq] at hz
  refine wpAnyG_first hi (Region.noSelect_spec hs) hQ (hz.1.symm.imp id (fun h => Array.getElem?_eq_none h)) (by omega) (.inr hz.2) fuel L _ hc (Region.free_spec hi hf) hr' hy h1
/-- all have come up -/
theorem doneG {fuel : Nat} {L : Array Bool} {a : Act} (hr : Region.ready md ops L = []) (h : ∀ w, S w → Q .normal a w) : GoG P md ops Q S z fuel L a := fun _ => by
  cases fuel with
  | zero => exact ⟨hr, h⟩
  | succ fuel => exact ⟨fun _ => h, fun i hi => (by rw [hr] at hi; cases hi), fun hi => (by rw [hr] at hi; cases hi)⟩
/-- the last one comes up -/
theorem lastG {fuel : Nat} {L : Array Bool} {a : Act} {oz : Oper} (hr : Region.ready md ops L = [z]) (ho : ops[z]? = some oz) (hr2 : Region.ready md ops (L.setIfInBounds z true) = [])
    (h : ∀ w, S w → ∀ K : Act → World → Prop, Shut (∀ a w, Q .normal a w → K a w) → if Region.wanted oz (yielded ops a.tmps) = true then Oper.wp P oz a w K Q else K (a.put oz.dst undef) w) : GoG P md ops Q S z (fuel + 1) L a := fun _ =>
  ⟨fun h0 => (by rw [h0] at hr; cases hr), fun i hi hz => by rw [hr] at hi; simp at hi; exact absurd hi hz, fun _ w hS => wpOp_step ho fun K hK => h w hS K fun a' w' hq => hK a' w' (by
    cases fuel with
    | zero => exact ⟨hr2, hq⟩
    | succ fuel => exact ⟨fun _ => hq, fun i hi => by rw [hr2] at hi; cases hi⟩)⟩
end
end Go.Proofs.Ytfkabmgbcdoijaa

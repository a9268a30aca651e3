/- Regions that draw their order, of whose worlds one condition alone is known: what yields one value in every world that meets it may be taken first, a call that makes memory too. The last operation (number z, for which all others wait) may break the condition. Nothing of the program. -/
import Derived.OrdersHeld

import Derived.Deep.RegionHeld

import Derived.Deep.RegionHeld3

namespace Go.Proofs.Ytpkpjfmljgchbaa

open Go

set_option linter.unusedVariables false

section

variable {P : Program} {ops : Array Oper} {Q : Exit → Act → World → Prop} {md : Region.Mode} {S : World → Prop} {z : Nat}

/-- what an operation does: it leaves v, in a world that meets T -/
def Does (P : Program) (o : Oper) (ρ : Operand → Value) (v : Value) (w : World) (T : World → Prop) : Prop :=
  (∃ w', (execOp ρ o).run P w = .ok (.value v) w' ∧ T w') ∨ (v = undef ∧ ∃ w', (execOp ρ o).run P w = .ok .skip w' ∧ T w') ∨
  (∃ f args w1, (execOp ρ o).run P w = .ok (.enter f args) w1 ∧ Calls P f args w1 fun e w' => e = .returned v ∧ T w') ∨
  (∃ r args w1, (execOp ρ o).run P w = .ok (.row r args) w1 ∧ Rows P r args w1 fun u w' => u = v ∧ T w')
theorem Does.wp {o : Oper} {a : Act} {v : Value} {w : World} {T : World → Prop} {K : Act → World → Prop} (h : Does P o a.eval v w T) (hK : ∀ w', T w' → K (a.put o.dst v) w') : Oper.wp P o a w K Q := by
  unfold Oper.wp
  rcases h with ⟨w', h1, h2⟩ | ⟨rfl, w', h1, h2⟩ | ⟨f, args, w1, h1, h2⟩ | ⟨r, args, w1, h1, h2⟩
  · rw [h1]; exact hK _ h2
  · rw [h1]; exact hK _ h2
  · rw [h1]
    refine Calls.mono h2 fun e w' he => ?_
    obtain ⟨rfl, ht⟩ := he
    exact hK _ ht
  · rw [h1]
    refine Rows.mono h2 fun u w' he => ?_
    obtain ⟨rfl, ht⟩ := he
    exact hK _ ht
theorem put_inj {a : Act} {d : Tmp} {u v : Value} (hd : d < a.tmps.size) (h : a.put (some d) u = a.put (some d) v) : u = v := by
  have h1 := congrArg (fun x : Act => x.tmps[d]?) h
  simpa [Act.put, hd] using h1
/-- by its run, in a frame at hand -/
theorem doesOf {o : Oper} {a : Act} {v : Value} {w : World} {T : World → Prop} {d : Tmp} (hd : o.dst = some d) (hlt0 : decide (d < a.tmps.size) = true)
    (h : ∀ K : Act → World → Prop, Shut (∀ w', T w' → K (a.put (some d) v) w') → Oper.wp P o a w K (fun _ _ _ => False)) : Does P o a.eval v w T := by
  have hlt := of_decide_eq_true hlt0
  have h1 := h (fun a' w' => a' = a.put (some d) v ∧ T w') (fun w' ht => ⟨rfl, ht⟩)
  unfold Oper.wp at h1
  unfold Does
  generalize (execOp a.eval o).run P w = r at *
  cases r with
  | ok n w' =>
    cases n <;> simp only [Oper.upon, hd] at h1
    case value u => exact .inl ⟨w', by rw [put_inj hlt h1.1], h1.2⟩
    case skip => exact .inr (.inl ⟨(put_inj hlt h1.1).symm, w', rfl, h1.2⟩)
    case defer x =>
      have := congrArg (fun a : Act => a.defers.length) h1.1
      simp [Act.put] at this
    case enter f args =>
      refine .inr (.inr (.inl ⟨f, args, w', rfl, Calls.mono h1 fun e w'' he => ?_⟩))
      cases e with
      | returned u => exact ⟨by rw [put_inj hlt he.1], he.2⟩
      | panicked c => exact he.elim
      | outgrown => exact absurd he (by unfold LetsOut; simp)
    case row r args => exact .inr (.inr (.inr ⟨r, args, w', rfl, Rows.mono h1 fun u w'' he => ⟨put_inj hlt he.1, he.2⟩⟩))
  | halt x w' => cases x <;> simp only [Oper.upon] at h1
/-- a load, by its run -/
theorem doesLoad {o : Oper} {ρ : Operand → Value} {w : World} {T : World → Prop} (ty : TypeId) (x : Operand) (ho : o.op = .load ty x) (v r : Value) (hx : ρ x = v) (hrun : (Instr.loadAt ty v).run P w = .ok r w) (hT : T w) : Does P o ρ r w T := by
  refine .inl ⟨w, ?_, hT⟩
  unfold execOp
  simp only [ho, hx, Sem.run_bind, Result.andThen_ok, hrun]
  rfl
/-- in every world that meets S operation o leaves v, and S holds again -/
def YieldsG (P : Program) (ops : Array Oper) (S : World → Prop) (o : Oper) (v : Value) (a : Act) : Prop :=
  (Region.wanted o (yielded ops a.tmps) = true ∧ ∀ w, S w → Does P o a.eval v w S) ∨ (Region.wanted o (yielded ops a.tmps) = false ∧ v = undef)
theorem YieldsG.wpOp {i : Nat} {o : Oper} {v : Value} {a : Act} (hi : ops[i]? = some o) (hy : YieldsG P ops S o v a)
    {K : Act → World → Prop} {w : World} (hS : S w) (h : ∀ w', S w' → K (a.put o.dst v) w') : wpOp P ops Q i K a w := by
  unfold Go.wpOp
  simp only [hi]
  rcases hy with ⟨hw, hv⟩ | ⟨hw, rfl⟩
  · simp only [hw, if_true]; exact .inl ((hv w hS).wp h)
  · simp only [hw, Bool.false_eq_true, if_false]; exact h _ hS
theorem YieldsG.of_same {o : Oper} {v : Value} {a a' : Act} (hy : YieldsG P ops S o v a) (he : execOp a'.eval o = execOp a.eval o)
    (hw : Region.wanted o (yielded ops a'.tmps) = Region.wanted o (yielded ops a.tmps)) : YieldsG P ops S o v a' := by
  unfold YieldsG Does at *
  rw [he, hw]
  exact hy
theorem wpOp_putG {j : Nat} {oi oj : Oper} {v : Value} (hj : ops[j]? = some oj) (hap : oi.apart ops oj = true)
    (hsi : ∀ cs b, oi.op ≠ .select cs b) (hsj : ∀ cs b, oj.op ≠ .select cs b)
    (hQ : ∀ c a w, Q (.panic c) (a.put oi.dst v) w → Q (.panic c) a w) {K : Act → World → Prop} {a : Act} {w : World}
    (hy : YieldsG P ops S oi v a) (h : wpOp P ops Q j K (a.put oi.dst v) w) :
    wpOp P ops Q j (fun a' w' => YieldsG P ops S oi v a' ∧ K (a'.put oi.dst v) w') a w := by
  obtain ⟨h1, h2, h3⟩ := Oper.apart_spec hap
  have keep : ∀ (a : Act), YieldsG P ops S oi v a → ∀ u, YieldsG P ops S oi v (a.put oj.dst u) := fun a hy u =>
    hy.of_same (execOp_put oi hsi a oj.dst u h3) (wanted_put oi a oj.dst u h3)
  have keepD : ∀ d, YieldsG P ops S oi v { a with defers := d :: a.defers } := fun d => hy.of_same rfl rfl
  unfold wpOp at *
  simp only [hj] at *
  rw [wanted_put oj a oi.dst v h1] at h
  split
  · rename_i hw
    simp only [hw, if_true] at h
    rcases h with h | ⟨hasks, hlets⟩
    case inr => exact .inr ⟨by unfold Oper.asks at *; rw [execOp_put oj hsj a oi.dst v h1] at hasks; exact hasks, hlets⟩
    refine .inl ?_
    unfold Oper.wp at *
    rw [execOp_put oj hsj a oi.dst v h1] at h
    generalize (execOp a.eval oj).run P w = r at *
    cases r with
    | ok n w' =>
      cases n <;> simp only [Oper.upon] at h ⊢
      case value u => exact ⟨keep a hy u, by rw [← Act.put_comm a v u h2]; exact h⟩
      case skip => exact ⟨keep a hy _, by rw [← Act.put_comm a v undef h2]; exact h⟩
      case defer d =>
        refine ⟨keep _ (keepD d) _, ?_⟩
        rw [← Act.put_comm _ v undef h2, ← Act.put_defers]
        exact h
      case enter f args =>
        refine Calls.mono h fun e w'' he => ?_
        cases e with
        | returned u => exact ⟨keep a hy u, by rw [← Act.put_comm a v u h2]; exact he⟩
        | panicked c => exact hQ _ _ _ he
        | outgrown => exact he
      case row row args => exact Rows.mono h fun u w'' he => ⟨keep a hy u, by rw [← Act.put_comm a v u h2]; exact he⟩
    | halt x w' =>
      cases x <;> simp only [Oper.upon] at h ⊢
      case panic u => exact hQ _ _ _ h
  · rename_i hw
    simp only [hw] at h
    exact ⟨keep a hy _, by rw [← Act.put_comm a v undef h2]; exact h⟩

/-- whoever has come up, all for whom it waits have -/
def Closed (md : Region.Mode) (ops : Array Oper) (L : Array Bool) : Prop := ∀ j o, ops[j]? = some o → L.getD j false = true → ∀ e ∈ o.after, Region.binds md e = true → L.getD e.on false = true
theorem Closed.set {L : Array Bool} {i : Nat} (h : Closed md ops L) (hi : i ∈ Region.ready md ops L) : Closed md ops (L.setIfInBounds i true) := by
  intro j o hj hl e he hb
  apply getD_set_true
  by_cases hij : i = j
  · subst hij
    obtain ⟨_, o', ho', hall⟩ := mem_ready.1 hi
    rw [hj] at ho'
    cases ho'
    exact hall e he hb
  · rw [getD_set_ne false hij] at hl
    exact h j o hj hl e he hb
/-- for operation z all others wait: each for one behind it, directly -/
def allWait (md : Region.Mode) (ops : Array Oper) (z : Nat) : Bool :=
  (List.range z).all fun i => (List.range (z + 1)).any fun k => decide (i < k) && ((ops[k]?).map fun o => o.after.toList.any fun e => Region.binds md e && (e.on == i)).getD false
theorem closed_all {L : Array Bool} (hw : allWait md ops z = true) (hc : Closed md ops L) (hz : z ∈ Region.ready md ops L) : ∀ n i, i + n = z → 0 < n → L.getD i false = true := by
  intro n
  induction n using Nat.strongRecOn with
  | ind n ih =>
    intro i hi hn
    unfold allWait at hw
    rw [List.all_eq_true] at hw
    have h1 := hw i (by rw [List.mem_range]; omega)
    rw [List.any_eq_true] at h1
    obtain ⟨k, hk, h2⟩ := h1
    rw [List.mem_range] at hk
    rw [Bool.and_eq_true, decide_eq_true_eq] at h2
    cases ho : ops[k]? with
    | none => rw [ho] at h2; simp at h2
    | some o =>
      rw [ho] at h2
      simp only [Option.map_some, Option.getD_some] at h2
      obtain ⟨hlt, h3⟩ := h2
      rw [List.any_eq_true] at h3
      obtain ⟨e, he, hb⟩ := h3
      rw [Bool.and_eq_true, beq_iff_eq] at hb
      obtain ⟨hb, rfl⟩ := hb
      replace he : e ∈ o.after := Array.mem_toList_iff.1 he
      by_cases hkz : k = z
      · subst hkz
        obtain ⟨_, o', ho', hall⟩ := mem_ready.1 hz
        rw [ho] at ho'
        cases ho'
        exact hall e he hb
      · have := ih (z - k) (by omega) k (by omega) (by omega)
        exact hc k o ho this e he hb

/-- whatever order is picked from here on, of the worlds S alone known; z is the last one -/
def wpAnyG (P : Program) (md : Region.Mode) (ops : Array Oper) (Q : Exit → Act → World → Prop) (S : World → Prop) (z : Nat) : Nat → Array Bool → Act → Prop
  | 0, L, a => Region.ready md ops L = [] ∧ ∀ w, S w → Q .normal a w
  | fuel + 1, L, a =>
    (Region.ready md ops L = [] → ∀ w, S w → Q .normal a w) ∧
    (∀ i ∈ Region.ready md ops L, i ≠ z → ∀ w, S w → wpOp P ops Q i (fun a' w' => S w' ∧ wpAnyG P md ops Q S z fuel (L.setIfInBounds i true) a') a w) ∧
    (z ∈ Region.ready md ops L → ∀ w, S w → wpOp P ops Q z (fun a' w' => wpAny P md ops Q fuel (L.setIfInBounds z true) a' w') a w)
theorem wpAny_of_G : ∀ (fuel : Nat) (L : Array Bool) (a : Act) (w : World), S w → wpAnyG P md ops Q S z fuel L a → wpAny P md ops Q fuel L a w
  | 0, _, _, w, hS, h => ⟨h.1, h.2 w hS⟩
  | fuel + 1, L, a, w, hS, h => ⟨fun h0 => h.1 h0 w hS, fun i hi => by
    by_cases hz : i = z
    · subst hz; exact h.2.2 hi w hS
    · exact wpOp_mono (fun a' w' h' => wpAny_of_G fuel _ a' w' h'.1 h'.2) (h.2.1 i hi hz w hS)⟩
/-- an operation that may come up now may be taken first -/
theorem wpAnyG_first {i : Nat} {oi : Oper} {v : Value} (hi : ops[i]? = some oi) (hsel : ∀ (j : Nat) (o : Oper) cs b, ops[j]? = some o → o.op ≠ .select cs b)
    (hQ : ∀ c a w, Q (.panic c) (a.put oi.dst v) w → Q (.panic c) a w) (hw : allWait md ops z = true ∨ ops[z]? = none) (hiz : i ≠ z) (hlt : ops[z]? = none ∨ i < z) :
    ∀ (fuel : Nat) (L : Array Bool) (a : Act), Closed md ops L →
      (∀ j oj, ops[j]? = some oj → j ≠ i → L.getD j true = false → (∀ e ∈ oj.after, Region.binds md e = true → e.on ≠ i) → oi.apart ops oj = true) →
      i ∈ Region.ready md ops L → YieldsG P ops S oi v a →
      wpAnyG P md ops Q S z fuel (L.setIfInBounds i true) (a.put oi.dst v) → wpAnyG P md ops Q S z (fuel + 1) L a := by
  have noz : ∀ L, Closed md ops L → i ∈ Region.ready md ops L → ¬ z ∈ Region.ready md ops L := by
    intro L hc hir hz
    rcases hlt with h | h
    · obtain ⟨_, o, ho, _⟩ := mem_ready.1 hz
      rw [h] at ho; cases ho
    · rcases hw with hw | hw
      · have h1 := closed_all hw hc hz (z - i) i (by omega) (by omega)
        have h0 := (mem_ready.1 hir).1
        rcases Nat.lt_or_ge i L.size with h' | h'
        · simp [h'] at h0 h1; rw [h0] at h1; cases h1
        · simp [Array.getElem?_eq_none h'] at h1
      · obtain ⟨_, o, ho, _⟩ := mem_ready.1 hz
        rw [hw] at ho; cases ho
  intro fuel
  induction fuel with
  | zero =>
    intro L a hc _ hr hy H
    refine ⟨fun h => (by rw [h] at hr; cases hr), fun j hj hjz w hS => ?_, fun hz => absurd hz (noz L hc hr)⟩
    by_cases hji : j = i
    · subst hji; exact hy.wpOp hi hS fun w' hS' => ⟨hS', H⟩
    · have := ready_mono hj hji
      rw [H.1] at this
      cases this
  | succ fuel ih =>
    intro L a hc hfree hr hy H
    refine ⟨fun h => (by rw [h] at hr; cases hr), fun j hj hjz w hS => ?_, fun hz => absurd hz (noz L hc hr)⟩
    by_cases hji : j = i
    · subst hji; exact hy.wpOp hi hS fun w' hS' => ⟨hS', H⟩
    · have h1 := H.2.1 j (ready_mono hj hji) hjz w hS
      obtain ⟨hjun, oj, hoj, hall⟩ := mem_ready.1 hj
      have hnot : ∀ e ∈ oj.after, Region.binds md e = true → e.on ≠ i := fun e he hb heq => by
        have h1 := hall e he hb
        have h0 := (mem_ready.1 hr).1
        rw [heq] at h1
        rcases Nat.lt_or_ge i L.size with h' | h'
        · simp [h'] at h0 h1; rw [h0] at h1; cases h1
        · simp [Array.getElem?_eq_none h'] at h1
      have h2 := wpOp_putG hoj (hfree j oj hoj hji hjun hnot) (fun cs b => hsel i oi cs b hi) (fun cs b => hsel j oj cs b hoj) hQ hy h1
      have hfree' : ∀ k ok, ops[k]? = some ok → k ≠ i → (L.setIfInBounds j true).getD k true = false →
          (∀ e ∈ ok.after, Region.binds md e = true → e.on ≠ i) → oi.apart ops ok = true := fun k ok hk hki hun hno => by
        refine hfree k ok hk hki ?_ hno
        by_cases hjk : j = k
        · subst hjk; exact hjun
        · rw [getD_set_ne true hjk] at hun; exact hun
      refine wpOp_mono (fun a' w' h3 => ⟨h3.2.1, ih (L.setIfInBounds j true) a' (hc.set hj) hfree' (ready_mono hr (Ne.symm hji)) h3.1 ?_⟩) h2
      rw [Array.setIfInBounds_comm _ _ hji]
      exact h3.2.2
theorem closed_none (n : Nat) : Closed md ops (Array.replicate n false) := by
  intro j o _ h
  rw [Array.getD_eq_getD_getElem?, Array.getElem?_replicate] at h
  split at h <;> simp at h

/-- the walk: who has come up waits for nobody -/
def GoG (P : Program) (md : Region.Mode) (ops : Array Oper) (Q : Exit → Act → World → Prop) (S : World → Prop) (z : Nat) (fuel : Nat) (L : Array Bool) (a : Act) : Prop := Closed md ops L → wpAnyG P md ops Q S z fuel L a
/-- may z be the last one -/
def lastOk (md : Region.Mode) (ops : Array Oper) (z : Nat) : Bool := decide (ops.size ≤ z) || allWait md ops z
/-- the beginning -/
theorem startG {id : Nat} {a : Act} {w : World} (S : World → Prop) (z : Nat) (hm : P.follows .mixedOrders = true) (hS : S w.drew) (h : GoG P .any ops Q S z ops.size (Array.replicate ops.size false) a) : (Code.region id ops true).wp P Q a w :=
  wp_region_any hm (wpAny_of_G _ _ _ _ hS (h (closed_none _)))
/-- an operation is taken first; the frame is laid out as a list -/
theorem takeG {i d : Nat} {oi : Oper} {v : Value} {fuel : Nat} {L : Array Bool} {t : List Value} {df : List Deferred} (hi : ops[i]? = some oi) (hd : oi.dst = some d)
    (hs : Region.noSelect ops = true) (hf : Region.free md ops L i = true) (hr : (Region.ready md ops L).contains i = true) (hz : (lastOk md ops z && decide (i < z)) = true)
    (hQ : ∀ c a w, Q (.panic c) (Act.put a oi.dst v) w → Q (.panic c) a w) (hy : YieldsG P ops S oi v ⟨t.toArray, df⟩)
    (h : GoG P md ops Q S z fuel (L.setIfInBounds i true) ⟨(t.set d v).toArray, df⟩) : GoG P md ops Q S z (fuel + 1) L ⟨t.toArray, df⟩ := by
  intro hc
  rw [Bool.and_eq_true, decide_eq_true_eq] at hz
  have hr' : i ∈ Region.ready md ops L := by simpa using hr
  have e : Act.put ⟨t.toArray, df⟩ (some d) v = ⟨(t.set d v).toArray, df⟩ := by simp [Act.put]
  have h1 := h (hc.set hr')
  rw [← e, ← hd] at h1
  unfold lastOk at hz
  rw [Bool.or_eq_true, decide_eq_true_eq] at hz
  refine wpAnyG_first hi (Region.noSelect_spec hs) hQ (hz.1.symm.imp id (fun h => Array.getElem?_eq_none h)) (by omega) (.inr hz.2) fuel L _ hc (Region.free_spec hi hf) hr' hy h1
/-- all have come up -/
theorem doneG {fuel : Nat} {L : Array Bool} {a : Act} (hr : Region.ready md ops L = []) (h : ∀ w, S w → Q .normal a w) : GoG P md ops Q S z fuel L a := fun _ => by
  cases fuel with
  | zero => exact ⟨hr, h⟩
  | succ fuel => exact ⟨fun _ => h, fun i hi => (by rw [hr] at hi; cases hi), fun hi => (by rw [hr] at hi; cases hi)⟩
/-- the last one comes up -/
theorem lastG {fuel : Nat} {L : Array Bool} {a : Act} {oz : Oper} (hr : Region.ready md ops L = [z]) (ho : ops[z]? = some oz) (hr2 : Region.ready md ops (L.setIfInBounds z true) = [])
    (h : ∀ w, S w → ∀ K : Act → World → Prop, Shut (∀ a w, Q .normal a w → K a w) → if Region.wanted oz (yielded ops a.tmps) = true then Oper.wp P oz a w K Q else K (a.put oz.dst undef) w) : GoG P md ops Q S z (fuel + 1) L a := fun _ =>
  ⟨fun h0 => (by rw [h0] at hr; cases hr), fun i hi hz => by rw [hr] at hi; simp at hi; exact absurd hi hz, fun _ w hS => wpOp_step ho fun K hK => h w hS K fun a' w' hq => hK a' w' (by
    cases fuel with
    | zero => exact ⟨hr2, hq⟩
    | succ fuel => exact ⟨fun _ => hq, fun i hi => by rw [hr2] at hi; cases hi⟩)⟩
end
end Go.Proofs.Ytpkpjfmljgchbaa

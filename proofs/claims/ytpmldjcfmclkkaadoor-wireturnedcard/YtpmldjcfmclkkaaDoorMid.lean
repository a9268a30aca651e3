/- A whole struct that is loaded, or laid into a variable of its own: the runs' equations, for the walk to use as rules. -/
import Derived.Test.YtpmldjcfmclkkaaDoorEvents

import Derived.WalkKit

import Derived.Deep.MidRow

namespace Go.Proofs.YtpmldjcfmclkkaaDoor

open Go.ChangeShapes Go.WideShapes Go.RowKit

set_option linter.unusedVariables false

/-- cells written one behind the other -/
def wrote (C : Array Value) : Nat → List Value → Array Value
  | _, [] => C
  | o, v :: vs => wrote (C.setIfInBounds o v) (o + 1) vs
theorem setCells_alloc (w : World) (t : TypeId) : ∀ (vs : List Value) (o : Nat) (C : Array Value), (w.alloc (.cells C t)).setCells w.heap.size o vs = w.alloc (.cells (wrote C o vs) t)
  | [], o, C => rfl
  | v :: vs, o, C => by
    rw [World.setCells, World.setCell_alloc_at C t w.heap.size o v rfl, setCells_alloc w t vs (o + 1), wrote]
theorem wrote_size : ∀ (vs : List Value) (o : Nat) (C : Array Value), (wrote C o vs).size = C.size
  | [], o, C => rfl
  | v :: vs, o, C => by rw [wrote, wrote_size vs]; simp
theorem wrote_get : ∀ (vs : List Value) (o : Nat) (C : Array Value) (i : Nat), o + vs.length ≤ C.size → (wrote C o vs)[i]? = if o ≤ i ∧ i < o + vs.length then vs[i - o]? else C[i]?
  | [], o, C, i, h => by rw [if_neg (by simp)]; rfl
  | v :: vs, o, C, i, h => by
    simp only [List.length_cons] at h
    rw [wrote, wrote_get vs (o + 1) _ i (by simp; omega)]
    by_cases h1 : i = o
    · subst h1
      rw [if_neg (by omega), if_pos (by simp), Nat.sub_self, Array.getElem?_setIfInBounds_self_of_lt (by omega)]
      rfl
    · by_cases h2 : o + 1 ≤ i ∧ i < o + 1 + vs.length
      · rw [if_pos h2, if_pos (by simp; omega), show i - o = (i - (o + 1)) + 1 by omega, List.getElem?_cons_succ]
      · rw [if_neg h2, if_neg (by simp; omega), Array.getElem?_setIfInBounds_ne (fun e => h1 e.symm)]
theorem wrote_all (Z : Array Value) (cs : List Value) (h : cs.length = Z.size) : wrote Z 0 cs = cs.toArray := by
  apply Array.ext_getElem?
  intro i
  rw [wrote_get cs 0 Z i (by omega)]
  by_cases hi : i < cs.length
  · rw [if_pos (by omega)]; simp
  · rw [if_neg (by omega)]
    rw [Array.getElem?_eq_none (by omega), List.getElem?_toArray, List.getElem?_eq_none (by omega)]

/-- a struct of so many cells is loaded whole -/
theorem load_mid {P : Program} {w : World} {b o : Nat} {ty : TypeId} {cs : List Value} {fs : Array Field} {n : Nat} (hu : P.underlying ty = some (.struct fs)) (hi : (P.info? ty).map (·.size) = some n) (hn : cs.length = n)
    (hc : ∀ j, j < n → w.cell? ⟨b, o + j, none⟩ = cs[j]?) : (Instr.loadAt ty (.pointer (some ⟨b, o, none⟩))).run P w = .ok (.agg cs.toArray) w :=
  run_loadAt_mid w b o ty cs (.struct fs) (fun j v hv => by
    have hj : j < n := by have := (List.getElem?_eq_some_iff.1 hv).1; omega
    rw [hc j hj, hv]) hu rfl (by rw [hi, hn])
/-- a struct is laid into a variable that was just made -/
theorem store_new {P : Program} {w : World} {ty : TypeId} {cs : List Value} {Z : Array Value} {g n : Nat} (hi : (P.info? ty).map (·.size) = some n) (hn : cs.length = n) (hz : Z.size = n) (h1 : ∀ v ∈ cs, v.oneCell' = true) (hg : g = w.heap.size) :
    (Instr.storeAt ty (.pointer (some ⟨g, 0, none⟩)) (.agg cs.toArray)).run P (w.alloc (.cells Z ty)) = .ok () (w.alloc (.cells cs.toArray ty)) := by
  subst hg
  rw [run_storeAt_mid (w.alloc (.cells Z ty)) w.heap.size 0 ty cs.toArray (fun j hj => ?_) (by rw [hi]; simp [hn]) (all_oneCell_toArray h1)]
  · rw [setCells_alloc, wrote_all Z cs (by omega)]
  · have hj' : j < Z.size := by simp at hj; omega
    rw [Nat.zero_add]
    refine ⟨?_, by simp [go_sem]⟩
    rw [cell_of_row _ w.heap.size j Z ty _ (heap_alloc_new w _), Array.getElem?_eq_getElem hj']
    rfl
/-- a struct is loaded out of a variable that was just laid -/
theorem load_new {P : Program} {w : World} {ty : TypeId} {cs : List Value} {fs : Array Field} {g n : Nat} (hu : P.underlying ty = some (.struct fs)) (hi : (P.info? ty).map (·.size) = some n) (hn : cs.length = n) (hg : g = w.heap.size) :
    (Instr.loadAt ty (.pointer (some ⟨g, 0, none⟩))).run P (w.alloc (.cells cs.toArray ty)) = .ok (.agg cs.toArray) (w.alloc (.cells cs.toArray ty)) := by
  subst hg
  exact load_mid hu hi hn fun j hj => by
    rw [Nat.zero_add, cell_of_row _ w.heap.size j _ ty _ (heap_alloc_new w _)]
    simp

/-- the operations, by their runs' equations -/
theorem wpList_load_at {P : Program} {ops : Array Oper} {rest : List Oper} {op : Oper} {a : Act} {w : World} {Q : Exit → Act → World → Prop} (ty : TypeId) (x : Operand) (ho : op.op = .load ty x) (hgd : op.guard = none)
    (v : Value) (hx : a.eval x = v) (r : Value) (hrun : (Instr.loadAt ty v).run P w = .ok r w)
    (h : wpList P ops Q rest (a.put op.dst r) w) : wpList P ops Q (op :: rest) a w :=
  wpList_plain hgd fun _ hK => by
    have := hK _ _ h
    unfold Oper.wp execOp
    simp only [ho, hx, Sem.run_bind, Result.andThen_ok, hrun]
    exact this
theorem wpList_store_at {P : Program} {ops : Array Oper} {rest : List Oper} {op : Oper} {a : Act} {w : World} {Q : Exit → Act → World → Prop} (ty : TypeId) (x y : Operand) (ho : op.op = .store ty x y) (hgd : op.guard = none)
    (vx vy : Value) (hx : a.eval x = vx) (hy : a.eval y = vy) (w' : World) (hrun : (Instr.storeAt ty vx vy).run P w = .ok () w')
    (h : wpList P ops Q rest (a.put op.dst undef) w') : wpList P ops Q (op :: rest) a w :=
  wpList_plain hgd fun _ hK => by
    have := hK _ _ h
    unfold Oper.wp execOp
    simp only [ho, hx, hy, Sem.run_bind, Result.andThen_ok, hrun]
    exact this

theorem VoteC.one {w : World} {cs : List Value} {v : Vt} (h : VoteC w cs v) : (∀ x ∈ cs, x.oneCell' = true) ∧ cs.length = 7 := by
  obtain ⟨_, ao, l, c, rfl, _⟩ := h
  refine ⟨?_, rfl⟩
  intro x hx
  simp only [List.mem_cons, List.not_mem_nil, or_false] at hx
  rcases hx with rfl | rfl | rfl | rfl | rfl | rfl | rfl <;> rfl
theorem ProofC.one {w : World} {cs : List Value} {v : Pf} (h : ProofC w cs v) : (∀ x ∈ cs, x.oneCell' = true) ∧ cs.length = 14 := by
  obtain ⟨x, y, rfl, h1, h2⟩ := h
  refine ⟨fun z hz => ?_, by rw [List.length_append, h1.one.2, h2.one.2]⟩
  rcases List.mem_append.1 hz with h | h
  · exact h1.one.1 z h
  · exact h2.one.1 z h
theorem BlockC.one {w : World} {cs : List Value} {v : Bk} (h : BlockC w cs v) : (∀ x ∈ cs, x.oneCell' = true) ∧ cs.length = 5 := by
  obtain ⟨_, ao, l, c, ao2, l2, c2, rfl, _⟩ := h
  refine ⟨?_, rfl⟩
  intro x hx
  simp only [List.mem_cons, List.not_mem_nil, or_false] at hx
  rcases hx with rfl | rfl | rfl | rfl | rfl <;> rfl
theorem EventC.one {w : World} {cs : List Value} {v : Ev} (h : EventC w cs v) : (∀ x ∈ cs, x.oneCell' = true) ∧ cs.length = 28 := by
  obtain ⟨_, x, y, z, rfl, h1, h2, h3⟩ := h
  refine ⟨fun u hu => ?_, by simp [h1.one.2, h2.one.2, h3.one.2]⟩
  simp only [List.mem_cons, List.mem_append] at hu
  rcases hu with rfl | rfl | h | h | h
  · rfl
  · rfl
  · exact h1.one.1 u h
  · exact h2.one.1 u h
  · exact h3.one.1 u h
end Go.Proofs.YtpmldjcfmclkkaaDoor

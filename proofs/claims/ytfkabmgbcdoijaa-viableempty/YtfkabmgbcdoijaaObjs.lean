/- Structs and variables in memory: loaded and stored whole; a world in which one block alone turns. -/
import Derived.Test.YtfkabmgbcdoijaaOctMath

import Derived.Test.YtfkabmgbcdoijaaProg

import Derived.WalkKit

import Derived.ProofKit

import Derived.Deep.MidRow

import Derived.Laws.Rows

namespace Go.Proofs.Ytfkabmgbcdoijaa

open Go.ChangeShapes Go.WideShapes Go.ChangeAt Go.RowKit

set_option linter.unusedVariables false

theorem below_alloc (w : World) (o : Obj) : Below w.heap.size w (w.alloc o) := (Below.refl _ _).alloc (Nat.le_refl _) _
/-- cells written one behind the other -/
def wrote (C : Array Value) : Nat → List Value → Array Value
  | _, [] => C
  | o, v :: vs => wrote (C.setIfInBounds o v) (o + 1) vs
theorem setCells_alloc (w : World) (t : TypeId) : ∀ (vs : List Value) (o : Nat) (C : Array Value), (w.alloc (.cells C t)).setCells w.heap.size o vs = w.alloc (.cells (wrote C o vs) t)
  | [], o, C => rfl
  | v :: vs, o, C => by
    rw [World.setCells, World.setCell_alloc_at C t w.heap.size o v rfl, setCells_alloc w t vs (o + 1), wrote]
theorem wrote_size : ∀ (vs : List Value) (o : Nat) (C : Array Value), (wrote C o vs).size = C.size
  | [], o, C => rfl
  | v :: vs, o, C => by rw [wrote, wrote_size vs]; simp
theorem wrote_get : ∀ (vs : List Value) (o : Nat) (C : Array Value) (i : Nat), o + vs.length ≤ C.size → (wrote C o vs)[i]? = if o ≤ i ∧ i < o + vs.length then vs[i - o]? else C[i]?
  | [], o, C, i, h => by rw [if_neg (by simp)]; rfl
  | v :: vs, o, C, i, h => by
    simp only [List.length_cons] at h
    rw [wrote, wrote_get vs (o + 1) _ i (by simp; omega)]
    by_cases h1 : i = o
    · subst h1
      rw [if_neg (by omega), if_pos (by simp), Nat.sub_self, Array.getElem?_setIfInBounds_self_of_lt (by omega)]
      rfl
    · by_cases h2 : o + 1 ≤ i ∧ i < o + 1 + vs.length
      · rw [if_pos h2, if_pos (by simp; omega), show i - o = (i - (o + 1)) + 1 by omega, List.getElem?_cons_succ]
      · rw [if_neg h2, if_neg (by simp; omega), Array.getElem?_setIfInBounds_ne (fun e => h1 e.symm)]
theorem wrote_all (Z : Array Value) (cs : List Value) (h : cs.length = Z.size) : wrote Z 0 cs = cs.toArray := by
  apply Array.ext_getElem?
  intro i
  rw [wrote_get cs 0 Z i (by omega)]
  by_cases hi : i < cs.length
  · rw [if_pos (by omega)]; simp
  · rw [if_neg (by omega)]
    rw [Array.getElem?_eq_none (by omega), List.getElem?_toArray, List.getElem?_eq_none (by omega)]

/-- a struct of so many cells is loaded whole -/
theorem load_mid {P : Program} {w : World} {b o : Nat} {ty : TypeId} {cs : List Value} {fs : Array Field} {n : Nat} (hu : P.underlying ty = some (.struct fs)) (hi : (P.info? ty).map (·.size) = some n) (hn : cs.length = n)
    (hc : ∀ j, j < n → w.cell? ⟨b, o + j, none⟩ = cs[j]?) : (Instr.loadAt ty (.pointer (some ⟨b, o, none⟩))).run P w = .ok (.agg cs.toArray) w :=
  run_loadAt_mid w b o ty cs (.struct fs) (fun j v hv => by
    have hj : j < n := by have := (List.getElem?_eq_some_iff.1 hv).1; omega
    rw [hc j hj, hv]) hu rfl (by rw [hi, hn])
/-- a struct is laid into a variable that was just made -/
theorem store_new {P : Program} {w : World} {ty : TypeId} {cs : List Value} {Z : Array Value} {g n : Nat} (hi : (P.info? ty).map (·.size) = some n) (hn : cs.length = n) (hz : Z.size = n) (h1 : ∀ v ∈ cs, v.oneCell' = true) (hg : g = w.heap.size) :
    (Instr.storeAt ty (.pointer (some ⟨g, 0, none⟩)) (.agg cs.toArray)).run P (w.alloc (.cells Z ty)) = .ok () (w.alloc (.cells cs.toArray ty)) := by
  subst hg
  rw [run_storeAt_mid (w.alloc (.cells Z ty)) w.heap.size 0 ty cs.toArray (fun j hj => ?_) (by rw [hi]; simp [hn]) (all_oneCell_toArray h1)]
  · rw [setCells_alloc, wrote_all Z cs (by omega)]
  · have hj' : j < Z.size := by simp at hj; omega
    rw [Nat.zero_add]
    refine ⟨?_, by simp [go_sem]⟩
    rw [cell_of_row _ w.heap.size j Z ty _ (heap_alloc_new w _), Array.getElem?_eq_getElem hj']
    rfl
/-- a struct is loaded out of a variable that was just laid -/
theorem load_new {P : Program} {w : World} {ty : TypeId} {cs : List Value} {fs : Array Field} {g n : Nat} (hu : P.underlying ty = some (.struct fs)) (hi : (P.info? ty).map (·.size) = some n) (hn : cs.length = n) (hg : g = w.heap.size) :
    (Instr.loadAt ty (.pointer (some ⟨g, 0, none⟩))).run P (w.alloc (.cells cs.toArray ty)) = .ok (.agg cs.toArray) (w.alloc (.cells cs.toArray ty)) := by
  subst hg
  exact load_mid hu hi hn fun j hj => by
    rw [Nat.zero_add, cell_of_row _ w.heap.size j _ ty _ (heap_alloc_new w _)]
    simp

/-- the operations, by their runs' equations -/
theorem wpList_load_at {P : Program} {ops : Array Oper} {rest : List Oper} {op : Oper} {a : Act} {w : World} {Q : Exit → Act → World → Prop} (ty : TypeId) (x : Operand) (ho : op.op = .load ty x) (hgd : op.guard = none)
    (v : Value) (hx : a.eval x = v) (r : Value) (hrun : (Instr.loadAt ty v).run P w = .ok r w)
    (h : wpList P ops Q rest (a.put op.dst r) w) : wpList P ops Q (op :: rest) a w :=
  wpList_plain hgd fun _ hK => by
    have := hK _ _ h
    unfold Oper.wp execOp
    simp only [ho, hx, Sem.run_bind, Result.andThen_ok, hrun]
    exact this
theorem wpList_store_at {P : Program} {ops : Array Oper} {rest : List Oper} {op : Oper} {a : Act} {w : World} {Q : Exit → Act → World → Prop} (ty : TypeId) (x y : Operand) (ho : op.op = .store ty x y) (hgd : op.guard = none)
    (vx vy : Value) (hx : a.eval x = vx) (hy : a.eval y = vy) (w' : World) (hrun : (Instr.storeAt ty vx vy).run P w = .ok () w')
    (h : wpList P ops Q rest (a.put op.dst undef) w') : wpList P ops Q (op :: rest) a w :=
  wpList_plain hgd fun _ hK => by
    have := hK _ _ h
    unfold Oper.wp execOp
    simp only [ho, hx, hy, Sem.run_bind, Result.andThen_ok, hrun]
    exact this

/-! ### a world without one block -/
/-- the world, its block r emptied -/
def hole (r : Nat) (w : World) : World := { w with heap := w.heap.setIfInBounds r (.cells #[] 0) }
theorem hole_size (r : Nat) (w : World) : (hole r w).heap.size = w.heap.size := by simp [hole]
theorem hole_get (r : Nat) (w : World) (k : Nat) (h : k ≠ r) : (hole r w).heap[k]? = w.heap[k]? := by
  simp only [hole]
  rw [Array.getElem?_setIfInBounds_ne (fun e => h e.symm)]
theorem hole_cell {r : Nat} {w : World} {a : Addr} {v : Value} (h : (hole r w).cell? a = some v) : a.block ≠ r ∧ w.cell? a = some v := by
  by_cases e : a.block = r
  · exfalso
    unfold World.cell? at h
    by_cases hr : r < w.heap.size
    · have : (hole r w).heap[a.block]? = some (.cells #[] 0) := by rw [e]; simp [hole, hr]
      rw [this] at h
      simp at h
    · have : (hole r w).heap[a.block]? = none := by rw [e]; exact Array.getElem?_eq_none (by rw [hole_size]; omega)
      rw [this] at h
      cases h
  · refine ⟨e, ?_⟩
    unfold World.cell? at h ⊢
    rw [hole_get r w a.block e] at h
    exact h
/-- but for block r nothing turns -/
def Apart (r : Nat) (w w' : World) : Prop := Below w.heap.size (hole r w) (hole r w')
theorem Apart.refl (r : Nat) (w : World) : Apart r w w := Below.refl _ _
theorem Apart.size {r : Nat} {w w' : World} (h : Apart r w w') : w.heap.size ≤ w'.heap.size := by
  have := Below.size h
  rwa [hole_size, hole_size] at this
theorem Apart.trans {r : Nat} {a b c : World} (h : Apart r a b) (k : Apart r b c) : Apart r a c := Below.trans h (Below.mono k h.size)
theorem Apart.of {r : Nat} {w w' : World} (h : Below w.heap.size w w') : Apart r w w' :=
  ⟨h.os, h.tape, h.output, by rw [hole_size, hole_size]; exact h.size, fun k hk => by
    by_cases e : k = r
    · subst e
      have h1 : k < w'.heap.size := Nat.lt_of_lt_of_le hk h.size
      simp [hole, hk, h1]
    · rw [hole_get _ _ _ e, hole_get _ _ _ e]; exact h.block k hk⟩
theorem Apart.alloc {r : Nat} {a w : World} (h : Apart r a w) (o : Obj) : Apart r a (w.alloc o) := h.trans (.of (below_alloc _ _))
theorem Apart.drew {r : Nat} {a w : World} (h : Apart r a w) : Apart r a w.drew := h.trans (.of (Below.refl _ _).drew)
theorem Apart.set {r : Nat} {a w : World} (h : Apart r a w) (o : Nat) (v : Value) : Apart r a (w.setCell ⟨r, o, none⟩ v) := by
  refine h.trans ⟨rfl, rfl, rfl, by simp [hole, World.setCell], fun k hk => ?_⟩
  by_cases e : k = r
  · subst e
    simp [hole, World.setCell, hk]
  · rw [hole_get _ _ _ e, hole_get _ _ _ e]
    exact Below.heap_setCell _ _ _ _ e
theorem Apart.block {r : Nat} {w w' : World} (h : Apart r w w') (k : Nat) (hk : k < w.heap.size) (hr : k ≠ r) : w'.heap[k]? = w.heap[k]? := by
  have := Below.block h k hk
  rwa [hole_get _ _ _ hr, hole_get _ _ _ hr] at this
/-- a row beside block r -/
theorem RowIn.unhole {k : IntKind} {r : Nat} {w : World} {ao : Option Addr} {n c : Nat} {zs : List Int} (h : RowIn k (hole r w) ao n c zs) : RowIn k w ao n c zs :=
  ⟨h.len, h.nil, fun i hi => by
    obtain ⟨b, off, e, hlt, hc⟩ := h.cell i hi
    rw [hole_size] at hlt
    exact ⟨b, off, e, hlt, (hole_cell hc).2⟩, h.cap⟩
theorem Apart.row {r : Nat} {w w' : World} (h : Apart r w w') {k : IntKind} {ao : Option Addr} {n c : Nat} {zs : List Int} (hr : RowIn k (hole r w) ao n c zs) : RowIn k (hole r w') ao n c zs := by
  refine hr.below ?_
  rw [hole_size]
  exact h

theorem set_obj {r : Nat} {w : World} {C : Array Value} {t : TypeId} {m : Nat × Nat} (h : w.heap[r]? = some (.cells C t m)) (o : Nat) (v : Value) : (w.setCell ⟨r, o, none⟩ v).heap[r]? = some (.cells (C.setIfInBounds o v) t m) := by
  simp [World.setCell, Array.getElem?_modify, h]
theorem setCells_obj {t : TypeId} {m : Nat × Nat} {h : Nat} : ∀ (vs : List Value) (o : Nat) (C : Array Value) (w : World), w.heap[h]? = some (.cells C t m) → (w.setCells h o vs).heap[h]? = some (.cells (wrote C o vs) t m) ∧ Apart h w (w.setCells h o vs)
  | [], o, C, w, hw => ⟨hw, Apart.refl _ _⟩
  | v :: vs, o, C, w, hw => by
    have := setCells_obj vs (o + 1) _ _ (set_obj hw o v)
    exact ⟨this.1, ((Apart.refl h w).set o v).trans this.2⟩
theorem wrote_mid (xs ys zs cs : List Value) (h : cs.length = ys.length) : wrote (xs ++ (ys ++ zs)).toArray xs.length cs = (xs ++ (cs ++ zs)).toArray := by
  apply Array.ext_getElem?
  intro i
  rw [wrote_get cs xs.length _ i (by simp; omega)]
  by_cases h1 : i < xs.length
  · rw [if_neg (by omega), List.getElem?_toArray, List.getElem?_toArray, List.getElem?_append_left h1, List.getElem?_append_left h1]
  · by_cases h2 : i < xs.length + cs.length
    · rw [if_pos (by omega), List.getElem?_toArray, List.getElem?_append_right (by omega), List.getElem?_append_left (by omega)]
    · rw [if_neg (by omega), List.getElem?_toArray, List.getElem?_toArray, List.getElem?_append_right (by omega), List.getElem?_append_right (by omega), List.getElem?_append_right (by omega), List.getElem?_append_right (by omega), h]
/-- a part of a struct is stored -/
theorem store_part {P : Program} {w : World} {h n o : Nat} {ty t : TypeId} {C : Array Value} {cs : List Value} (hi : (P.info? ty).map (·.size) = some n) (hn : cs.length = n) (hC : o + n ≤ C.size) (h1 : ∀ v ∈ cs, v.oneCell' = true) (ho : w.heap[h]? = some (.cells C t (0, 0))) :
    ∃ w', (Instr.storeAt ty (.pointer (some ⟨h, o, none⟩)) (.agg cs.toArray)).run P w = .ok () w' ∧ w'.heap[h]? = some (.cells (wrote C o cs) t (0, 0)) ∧ Apart h w w' := by
  have h2 := setCells_obj cs o C w ho
  refine ⟨w.setCells h o cs, ?_, h2.1, h2.2⟩
  rw [run_storeAt_mid w h o ty cs.toArray (fun j hj => ?_) (by rw [hi]; simp [hn]) (all_oneCell_toArray h1)]
  have hj' : o + j < C.size := by simp at hj; omega
  refine ⟨?_, ?_⟩
  · rw [cell_of_row _ h (o + j) C t _ ho, Array.getElem?_eq_getElem hj']
    rfl
  · unfold World.frozen?
    rw [ho]
    simp
/-- a struct is stored whole -/
theorem store_obj {P : Program} {w : World} {h n : Nat} {ty t : TypeId} {C : Array Value} {cs : List Value} (hi : (P.info? ty).map (·.size) = some n) (hn : cs.length = n) (hC : C.size = n) (h1 : ∀ v ∈ cs, v.oneCell' = true) (ho : w.heap[h]? = some (.cells C t (0, 0))) :
    ∃ w', (Instr.storeAt ty (.pointer (some ⟨h, 0, none⟩)) (.agg cs.toArray)).run P w = .ok () w' ∧ w'.heap[h]? = some (.cells cs.toArray t (0, 0)) ∧ Apart h w w' := by
  have := store_part (o := 0) hi hn (by omega) h1 ho
  rwa [wrote_all C cs (by omega)] at this
/-- a struct of a variable is the result -/
theorem ret_struct {P : Program} {fn : Func} {R : Ending → World → Prop} {a : Act} {w : World} {p : Tmp} {ty t : TypeId} {g : Nat} {cs : List Value} {fs : Array Field} (h : fn.results = #[.cell p ty]) (hp : a.tmps.getD p undef = .pointer (some ⟨g, 0, none⟩))
    (hg : w.heap[g]? = some (.cells cs.toArray t (0, 0))) (hu : P.underlying ty = some (.struct fs)) (hi : (P.info? ty).map (·.size) = some cs.length) (hd : a.defers = []) (hR : R (.returned (.agg cs.toArray)) w) : bodyPost P fn R .ret a w :=
  bodyPost_ret (results_cell_row h a.tmps w g t cs.toArray (0, 0) _ hp hg hu rfl (by rw [hi]; simp)) hd hR

theorem Apart.os {r : Nat} {w w' : World} (h : Apart r w w') : w'.os = w.os := show (hole r w').os = (hole r w).os from Below.os h
theorem Apart.tape {r : Nat} {w w' : World} (h : Apart r w w') : w'.tape = w.tape := show (hole r w').tape = (hole r w).tape from Below.tape h
theorem Apart.output {r : Nat} {w w' : World} (h : Apart r w w') : w'.output = w.output := show (hole r w').output = (hole r w).output from Below.output h
/-- two blocks that may turn, one behind the other, both new or known -/
theorem Apart.old {r : Nat} {w w' : World} (h : Apart r w w') (B : Nat) (hB : B ≤ w.heap.size) (hr : B ≤ r) : Below B w w' :=
  ⟨h.os, h.tape, h.output, h.size, fun k hk => h.block k (by omega) (by omega)⟩
/-- a store into a block that was made here turns nothing old -/
theorem Apart.inner {r h : Nat} {a w w' : World} (H : Apart r a w) (k : Apart h w w') (hh : a.heap.size ≤ h) (hr : h ≠ r) : Apart r a w' :=
  ⟨k.os.trans H.os, k.tape.trans H.tape, k.output.trans H.output, by rw [hole_size, hole_size]; exact Nat.le_trans H.size k.size, fun i hi => by
    by_cases e : i = r
    · subst e
      have h1 : i < w'.heap.size := Nat.lt_of_lt_of_le hi (Nat.le_trans H.size k.size)
      simp [hole, hi, h1]
    · rw [hole_get _ _ _ e, hole_get _ _ _ e, k.block i (Nat.lt_of_lt_of_le hi H.size) (by omega)]
      exact H.block i hi e⟩
theorem load_obj {w : World} {h : Nat} {C : Array Value} {t : TypeId} {fs : Array Field} {n : Nat} (hu : Try.prog.underlying t = some (.struct fs)) (hi : (Try.prog.info? t).map (·.size) = some n) (hn : C.size = n)
    (ho : w.heap[h]? = some (.cells C t (0, 0))) : (Instr.loadAt t (.pointer (some ⟨h, 0, none⟩))).run Try.prog w = .ok (.agg C) w := by
  have := load_mid (P := Try.prog) (w := w) (b := h) (o := 0) (cs := C.toList) hu hi (by simpa using hn) fun j hj => by
    rw [Nat.zero_add, cell_of_row w h j C t _ ho]
    simp
  simpa using this
/-- a store as a step of a region that draws its order, by its run's equation -/
theorem step_store_at {P : Program} {ops : Array Oper} {op : Oper} {a : Act} {w : World} {K : Act → World → Prop} {Q : Exit → Act → World → Prop} {E : Prop} (ty : TypeId) (x y : Operand) (ho : op.op = .store ty x y) (hgd : op.guard = none)
    (vx vy : Value) (hx : a.eval x = vx) (hy : a.eval y = vy) (w' : World) (hrun : (Instr.storeAt ty vx vy).run P w = .ok () w')
    (h : K (a.put op.dst undef) w') : if Region.wanted op (yielded ops a.tmps) = true then Oper.wp P op a w K Q else E := by
  have hw : Region.wanted op (yielded ops a.tmps) = true := by simp [Region.wanted, hgd]
  rw [if_pos hw]
  unfold Oper.wp execOp
  simp only [ho, hx, hy, Sem.run_bind, Result.andThen_ok, hrun]
  exact h
/-- a variable and what lies in it -/
structure OAt (w : World) (b : Nat) (o : Obj) : Prop where
  lt : b < w.heap.size
  at_ : w.heap[b]? = some o
theorem OAt.below {w w' : World} {b : Nat} {o : Obj} (h : OAt w b o) (hb : Below w.heap.size w w') : OAt w' b o := ⟨Nat.lt_of_lt_of_le h.lt hb.size, (hb.block b h.lt).trans h.at_⟩
theorem OAt.alloc {w : World} {b : Nat} {o : Obj} (h : OAt w b o) (x : Obj) : OAt (w.alloc x) b o := h.below (below_alloc _ _)
theorem OAt.drew {w : World} {b : Nat} {o : Obj} (h : OAt w b o) : OAt w.drew b o := ⟨h.lt, h.at_⟩
theorem OAt.new (w : World) (o : Obj) : OAt (w.alloc o) w.heap.size o := ⟨by simp, heap_alloc_new w o⟩
theorem OAt.apart {w w' : World} {b r : Nat} {o : Obj} (h : OAt w b o) (k : Apart r w w') (hr : b ≠ r) : OAt w' b o := ⟨Nat.lt_of_lt_of_le h.lt k.size, (k.block b h.lt hr).trans h.at_⟩
theorem OAt.cell {w : World} {b : Nat} {C : Array Value} {t : TypeId} {m : Nat × Nat} (h : OAt w b (.cells C t m)) (i : Nat) : w.cell? ⟨b, i, none⟩ = C[i]? := cell_of_row w b i C t _ h.at_
theorem OAt.of {w : World} {b : Nat} {o : Obj} (h : w.heap[b]? = some o) : OAt w b o := by
  refine ⟨?_, h⟩
  rcases Nat.lt_or_ge b w.heap.size with h' | h'
  · exact h'
  · rw [Array.getElem?_eq_none h'] at h
    cases h
/-- a row that lies elsewhere than in the block that turns -/
theorem RowIn.aside {k : IntKind} {w w' : World} {r : Nat} {ao : Option Addr} {n c : Nat} {zs : List Int} (h : RowIn k w ao n c zs) (ha : Apart r w w') (hr : ∀ b off, ao = some ⟨b, off, none⟩ → b ≠ r) : RowIn k w' ao n c zs :=
  ⟨h.len, h.nil, fun i hi => by
    obtain ⟨b, off, e, hlt, hc⟩ := h.cell i hi
    refine ⟨b, off, e, Nat.lt_of_lt_of_le hlt ha.size, ?_⟩
    rw [World.cell?_of_block (a := ⟨b, off + i, none⟩) (ha.block b hlt (hr b off e))]
    exact hc, h.cap⟩
theorem RowIn.far {k : IntKind} {w : World} {ao : Option Addr} {n c : Nat} {zs : List Int} (h : RowIn k w ao n c zs) (hn : 0 < n) : ∀ b off, ao = some ⟨b, off, none⟩ → b < w.heap.size := fun b off e => by
  obtain ⟨b', off', e', hlt, _⟩ := h.cell 0 hn
  rw [e] at e'
  cases e'
  exact hlt
end Go.Proofs.Ytfkabmgbcdoijaa

/- Data with depth that came in: shapes of Go's types (numbers, bools, slices, structs), the plain value that a reading has, and where it lies in memory. Nothing of the program. -/
import Derived.Test.YtfkabmgbcdoijaaOctMath

import Derived.Deep.Slices

import Derived.ChangeOld

namespace Go.Proofs.Ytfkabmgbcdoijaa

open Go.ChangeShapes Go.WideShapes Go.RowKit Go.Deep

set_option linter.unusedVariables false

/-- the shape of a type: 'st': a struct, its fields as pairs that end in 'unit' -/
inductive Sh where
  | int (k : IntKind)
  | bool
  | slice (s : Sh)
  | st (s : Sh)
  | unit
  | pair (a b : Sh)
/-- how many cells -/
def Sh.size : Sh → Nat
  | .int _ => 1
  | .bool => 1
  | .slice _ => 1
  | .st s => s.size
  | .unit => 0
  | .pair a b => a.size + b.size
/-- the plain value -/
def Sh.Val : Sh → Type
  | .int _ => Int
  | .bool => Bool
  | .slice s => List s.Val
  | .st s => s.Val
  | .unit => Unit
  | .pair a b => a.Val × b.Val

/-- a row of elements of so many cells each, that is read -/
structure RowsIn {α : Type} (R : List Value → α → Prop) (size : Nat) (w : World) (ao : Option Addr) (n c : Nat) (vs : List α) : Prop where
  len : vs.length = n
  nil : ao = none → n = 0 ∧ c = 0
  cap : n ≤ c ∧ c ≤ maxLen
  row : ∀ i (h : i < vs.length), ∃ b off cs, ao = some ⟨b, off, none⟩ ∧ b < w.heap.size ∧ cs.length = size ∧ (∀ j, j < size → w.cell? ⟨b, off + (i * size + j), none⟩ = cs[j]?) ∧ R cs vs[i]

/-- the cells hold the value -/
def Sh.In : (s : Sh) → World → List Value → s.Val → Prop
  | .int k, _, cs, n => cs = [.int k n] ∧ (Lit.int k n).wf = true
  | .bool, _, cs, b => cs = [.bool b]
  | .slice s, w, cs, vs => ∃ ao n c, cs = [.slice ao n c] ∧ RowsIn (fun x v => s.In w x v) s.size w ao n c vs
  | .st s, w, cs, v => s.In w cs v
  | .unit, _, cs, _ => cs = []
  | .pair a b, w, cs, v => ∃ x y, cs = x ++ y ∧ x.length = a.size ∧ a.In w x v.1 ∧ b.In w y v.2

theorem Sh.In.size : ∀ {s : Sh} {w : World} {cs : List Value} {v : s.Val}, s.In w cs v → cs.length = s.size
  | .int _, _, _, _, h => by rw [h.1]; rfl
  | .bool, _, _, _, h => by rw [show _ = _ from h]; rfl
  | .slice _, _, _, _, ⟨_, _, _, h, _⟩ => by rw [h]; rfl
  | .st s, _, _, _, h => Sh.In.size (s := s) h
  | .unit, _, _, _, h => by rw [show _ = _ from h]; rfl
  | .pair a b, _, _, _, ⟨x, y, h, hx, _, hy⟩ => by rw [h, List.length_append, hx, hy.size]; rfl

theorem RowsIn.mono {α : Type} {R R' : List Value → α → Prop} {size : Nat} {w w' : World} {ao : Option Addr} {n c : Nat} {vs : List α} (h : RowsIn R size w ao n c vs) (hb : Below w.heap.size w w') (hR : ∀ cs v, R cs v → R' cs v) : RowsIn R' size w' ao n c vs :=
  ⟨h.len, h.nil, h.cap, fun i hi => by
    obtain ⟨b, off, cs, e, hlt, hl, hc, hr⟩ := h.row i hi
    exact ⟨b, off, cs, e, Nat.lt_of_lt_of_le hlt hb.size, hl, fun j hj => (hb.cell (p := ⟨b, off + (i * size + j), none⟩) hlt).trans (hc j hj), hR _ _ hr⟩⟩
theorem Sh.In.below : ∀ {s : Sh} {w w' : World} {cs : List Value} {v : s.Val}, s.In w cs v → Below w.heap.size w w' → s.In w' cs v
  | .int _, _, _, _, _, h, _ => h
  | .bool, _, _, _, _, h, _ => h
  | .slice s, _, _, _, _, ⟨ao, n, c, e, h⟩, hb => ⟨ao, n, c, e, h.mono hb fun cs v hr => Sh.In.below (s := s) hr hb⟩
  | .st s, _, _, _, _, h, hb => Sh.In.below (s := s) h hb
  | .unit, _, _, _, _, h, _ => h
  | .pair a b, _, _, _, _, ⟨x, y, e, hx, h1, h2⟩, hb => ⟨x, y, e, hx, h1.below hb, h2.below hb⟩

/-- the type has the shape -/
def Sh.Has (P : Program) : Sh → (TypeId ⊕ (List Field × Nat)) → Prop
  | .int k, .inl t => P.underlying t = some (.int k)
  | .bool, .inl t => P.underlying t = some .bool
  | .slice s, .inl t => ∃ e, P.underlying t = some (.slice e) ∧ P.cellsOf e = s.size ∧ 0 < s.size ∧ s.Has P (.inl e)
  | .st s, .inl t => ∃ fs : Array Field, P.underlying t = some (.struct fs) ∧ P.cellsOf t = s.size ∧ s.Has P (.inr (fs.toList, 0))
  | .unit, .inr (fs, _) => fs = []
  | .pair a b, .inr (f :: fs, off) => f.offset = off ∧ P.cellsOf f.type = a.size ∧ a.Has P (.inl f.type) ∧ b.Has P (.inr (fs, off + a.size))
  | _, _ => False

section

variable {H : Type} {enc : TypeId × Value → H} {P : Program} {w : World} {held : Bool}
theorem Sh.read (s : Sh) :
    (∀ (t : TypeId) (fuel : Nat) (cs : List Value) (x : DataW H × List MemPlace), s.Has P (.inl t) → DataW.trod enc P w 0 (fun _ => true) held fuel t cs = some x → ∃ v, s.In w cs v) ∧
    (∀ (fs : List Field) (off n : Nat) (cs : List Value), s.Has P (.inr (fs, off)) → cs.length = off + s.size →
      (∀ (i : Nat) (f : Field), fs[i]? = some f → ∃ y, DataW.trod enc P w 0 (fun _ => true) held n f.type ((cs.drop f.offset).take (P.cellsOf f.type)) = some y) → ∃ v, s.In w (cs.drop off) v) := by
  induction s with
  | int k =>
    refine ⟨fun t fuel cs x hs h => ?_, fun fs off n cs hs => by cases hs⟩
    obtain ⟨n, e, _, hw⟩ := DataW.trod_int hs h
    exact ⟨n, e, hw⟩
  | bool =>
    refine ⟨fun t fuel cs x hs h => ?_, fun fs off n cs hs => by cases hs⟩
    obtain ⟨b, e, _⟩ := DataW.trod_bool hs h
    exact ⟨b, e⟩
  | slice s ih =>
    refine ⟨fun t fuel cs x hs h => ?_, fun fs off n cs hs => by cases hs⟩
    obtain ⟨e, ht, hc, hp, hs⟩ := hs
    rcases open_slice ht h with ⟨rfl, _⟩ | ⟨a, len, cap, m, n, D, Pl, rfl, _, hl, hm, hmm, _, hi⟩
    · exact ⟨[], none, 0, 0, rfl, rfl, fun _ => ⟨rfl, rfl⟩, by simp [maxLen], fun i hi => by simp at hi⟩
    · have hmc : m = cap := by simpa using hmm
      subst hmc
      have hv : ∀ i : Fin len, ∃ v : s.Val, ∃ cs', w.cells? 0 (a.add (i * P.cellsOf e)) (P.cellsOf e) = some cs' ∧ s.In w cs' v := fun i => by
        obtain ⟨cs', h1, h2⟩ := hi i (by have := i.2; omega)
        obtain ⟨v, hv⟩ := ih.1 e n cs' _ hs h2
        exact ⟨v, cs', h1, hv⟩
      have hV : ∀ i : Fin len, ∃ cs', w.cells? 0 (a.add (i * P.cellsOf e)) (P.cellsOf e) = some cs' ∧ s.In w cs' (Classical.choose (hv i)) := fun i => Classical.choose_spec (hv i)
      refine ⟨List.ofFn fun i => Classical.choose (hv i), some a, len, m, rfl, by simp, fun h => (by cases h), ⟨hl, hm⟩, fun i hi => ?_⟩
      have hi' : i < len := by simpa using hi
      obtain ⟨cs', h1, h2⟩ := hV ⟨i, hi'⟩
      rw [hc] at h1
      obtain ⟨_, hlen, h3⟩ := World.cells?_some h1
      have hlt := World.cells?_block h1 hp
      obtain ⟨b, off, spot⟩ := a
      obtain ⟨cs0, g1, g2⟩ := hV ⟨0, by omega⟩
      rw [hc] at g1
      obtain ⟨_, glen, g3⟩ := World.cells?_some g1
      have hc0 := g3 0 hp
      rw [List.getElem?_eq_getElem (by omega)] at hc0
      have hspot : spot = none := by simpa [Addr.add] using World.cell?_spot hc0
      subst hspot
      refine ⟨b, off, cs', rfl, by simpa [Addr.add_lit] using hlt, hlen, fun j hj => ?_, ?_⟩
      · have := h3 j hj
        simpa [Addr.add_lit, Nat.add_assoc] using this
      · simpa using h2
  | st s ih =>
    refine ⟨fun t fuel cs x hs h => ?_, fun fs off n cs hs => by cases hs⟩
    obtain ⟨fs, ht, hc, hs⟩ := hs
    obtain ⟨xs, n, _, _, hl, hlen, hf⟩ := DataW.trod_struct ht h
    have := ih.2 fs.toList 0 n cs hs (by omega) (fun i f hif => by
      have hi : i < fs.size := by have := (List.getElem?_eq_some_iff.1 hif).1; simpa using this
      have h1 := hf i f (by simpa using hif)
      rw [List.getElem?_eq_getElem (by omega)] at h1
      exact ⟨_, h1⟩)
    rw [List.drop_zero] at this
    exact this
  | unit =>
    refine ⟨fun t fuel cs x hs h => (by cases hs), fun fs off n cs hs hl _ => ⟨(), ?_⟩⟩
    show cs.drop off = []
    apply List.drop_of_length_le
    simp only [Sh.size] at hl
    omega
  | pair a b iha ihb =>
    refine ⟨fun t fuel cs x hs h => (by cases hs), fun fs off n cs hs hl hf => ?_⟩
    cases fs with
    | nil => cases hs
    | cons f fs =>
      obtain ⟨ho, hc, h1, h2⟩ := hs
      obtain ⟨y, hy⟩ := hf 0 f rfl
      rw [ho, hc] at hy
      obtain ⟨v1, hv1⟩ := iha.1 _ _ _ _ h1 hy
      obtain ⟨v2, hv2⟩ := ihb.2 fs (off + a.size) n cs h2 (by simp only [Sh.size] at hl; omega) (fun i g hg => hf (i + 1) g (by simpa using hg))
      refine ⟨(v1, v2), _, _, ?_, hv1.size, hv1, hv2⟩
      rw [← List.drop_drop, List.take_append_drop]
end
theorem Sh.has_slice {P : Program} {s : Sh} {t e : TypeId} (h1 : P.underlying t = some (.slice e)) (h2 : P.cellsOf e = s.size) (h3 : 0 < s.size) (h4 : s.Has P (.inl e)) : (Sh.slice s).Has P (.inl t) := ⟨e, h1, h2, h3, h4⟩
theorem Sh.has_st {P : Program} {s : Sh} {t : TypeId} {fs : Array Field} (h1 : P.underlying t = some (.struct fs)) (h2 : P.cellsOf t = s.size) (h3 : s.Has P (.inr (fs.toList, 0))) : (Sh.st s).Has P (.inl t) := ⟨fs, h1, h2, h3⟩
theorem Sh.has_pair {P : Program} {a b : Sh} {f : Field} {fs : List Field} {off : Nat} (h1 : f.offset = off) (h2 : P.cellsOf f.type = a.size) (h3 : a.Has P (.inl f.type)) (h4 : b.Has P (.inr (fs, off + a.size))) : (Sh.pair a b).Has P (.inr (f :: fs, off)) := ⟨h1, h2, h3, h4⟩
theorem Sh.has_unit {P : Program} {off : Nat} : Sh.unit.Has P (.inr ([], off)) := rfl

theorem RowsIn.map {α β : Type} {R : List Value → α → Prop} {R' : List Value → β → Prop} {size : Nat} {w : World} {ao : Option Addr} {n c : Nat} {vs : List α} (h : RowsIn R size w ao n c vs) (f : α → β) (hR : ∀ cs v, R cs v → R' cs (f v)) : RowsIn R' size w ao n c (vs.map f) :=
  ⟨by simpa using h.len, h.nil, h.cap, fun i hi => by
    obtain ⟨b, off, cs, e, hlt, hl, hc, hr⟩ := h.row i (by simpa using hi)
    exact ⟨b, off, cs, e, hlt, hl, hc, by simpa using hR _ _ hr⟩⟩
/-- the row of numbers -/
theorem RowsIn.ints {k : IntKind} {w : World} {ao : Option Addr} {n c : Nat} {vs : List Int} (h : RowsIn (fun x v => (Sh.int k).In w x v) 1 w ao n c vs) : RowIn k w ao n c vs :=
  ⟨h.len, h.nil, fun i hi => by
    obtain ⟨b, off, cs, e, hlt, hl, hc, hr⟩ := h.row i (Nat.lt_of_lt_of_eq hi h.len.symm)
    refine ⟨b, off, e, hlt, ?_⟩
    have h0 := hc 0 (by omega)
    have hi' : i < vs.length := Nat.lt_of_lt_of_eq hi h.len.symm
    rw [Nat.mul_one, Nat.add_zero, hr.1] at h0
    rw [h0, List.getD_eq_getElem?_getD, List.getElem?_eq_getElem hi']
    rfl, h.cap⟩
theorem RowsIn.wf {k : IntKind} {w : World} {ao : Option Addr} {n c : Nat} {vs : List Int} (h : RowsIn (fun x v => (Sh.int k).In w x v) 1 w ao n c vs) : ∀ z ∈ vs, (Lit.int k z).wf = true := by
  intro z hz
  obtain ⟨i, hi, rfl⟩ := List.getElem_of_mem hz
  obtain ⟨b, off, cs, e, hlt, hl, hc, hr⟩ := h.row i hi
  exact hr.2
end Go.Proofs.Ytfkabmgbcdoijaa

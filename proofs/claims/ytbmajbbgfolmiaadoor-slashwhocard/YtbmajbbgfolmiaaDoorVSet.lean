/- Votes, configurations and rows in memory where one cell is written; a vote's own list that grows. -/
import Derived.Test.YtbmajbbgfolmiaaDoorVAt

namespace Go.Proofs.YtbmajbbgfolmiaaDoor

open Go.ChangeShapes Go.WideShapes Go.ChangeAt Go.RowKit

set_option linter.unusedVariables false

theorem VAt.set6 {w : World} {b : Nat} {s h se sr te tr : Int} {a : Option Addr} {l c : Nat} (hv : VAt w b s h se sr te tr a l c) (a' : Option Addr) (l' c' : Nat) : VAt (w.setCell ⟨b, 6, none⟩ (.slice a' l' c')) b s h se sr te tr a' l' c' :=
  ⟨by simpa using hv.lt, by rw [World.cell?_setCell_other _ _ _ _ (by simp)]; exact hv.c0, by rw [World.cell?_setCell_other _ _ _ _ (by simp)]; exact hv.c1, by rw [World.cell?_setCell_other _ _ _ _ (by simp)]; exact hv.c2, by rw [World.cell?_setCell_other _ _ _ _ (by simp)]; exact hv.c3, by rw [World.cell?_setCell_other _ _ _ _ (by simp)]; exact hv.c4, by rw [World.cell?_setCell_other _ _ _ _ (by simp)]; exact hv.c5, World.cell?_setCell_same _ _ _ hv.c6⟩
theorem VAt.set {w : World} {b : Nat} {s h se sr te tr : Int} {a : Option Addr} {l c : Nat} (hv : VAt w b s h se sr te tr a l c) {b' i : Nat} (hne : b ≠ b') (v : Value) : VAt (w.setCell ⟨b', i, none⟩ v) b s h se sr te tr a l c := by
  have hc : ∀ j, (w.setCell ⟨b', i, none⟩ v).cell? ⟨b, j, none⟩ = w.cell? ⟨b, j, none⟩ := fun j => World.cell?_setCell_other _ _ _ _ (fun e => hne (by injection e with e1; exact e1.symm))
  exact ⟨by simpa using hv.lt, by rw [hc]; exact hv.c0, by rw [hc]; exact hv.c1, by rw [hc]; exact hv.c2, by rw [hc]; exact hv.c3, by rw [hc]; exact hv.c4, by rw [hc]; exact hv.c5, by rw [hc]; exact hv.c6⟩
theorem CAt.set {w : World} {b : Nat} {s t : Int} {a : Option Addr} {l c : Nat} (hv : CAt w b a l c s t) {b' i : Nat} (hne : b ≠ b') (v : Value) : CAt (w.setCell ⟨b', i, none⟩ v) b a l c s t := by
  have hc : ∀ j, (w.setCell ⟨b', i, none⟩ v).cell? ⟨b, j, none⟩ = w.cell? ⟨b, j, none⟩ := fun j => World.cell?_setCell_other _ _ _ _ (fun e => hne (by injection e with e1; exact e1.symm))
  exact ⟨by simpa using hv.lt, by rw [hc]; exact hv.c0, by rw [hc]; exact hv.c1, by rw [hc]; exact hv.c2⟩
theorem RowIn.set {k : IntKind} {w : World} {ao : Option Addr} {n c : Nat} {zs : List Int} (h : RowIn k w ao n c zs) {b i : Nat} {a : Option Addr} {l d : Nat} (hs : w.cell? ⟨b, i, none⟩ = some (.slice a l d)) (v : Value) : RowIn k (w.setCell ⟨b, i, none⟩ v) ao n c zs :=
  ⟨h.len, h.nil, fun j hj => by
    obtain ⟨g, off, e, hlt, hc⟩ := h.cell j hj
    refine ⟨g, off, e, by simpa using hlt, ?_⟩
    rw [World.cell?_setCell_other _ _ _ _ (fun e => by rw [e, hc] at hs; cases hs)]
    exact hc, h.cap⟩

theorem RowIn.front {k : IntKind} {w : World} {b off n c : Nat} {zs : List Int} (h : RowIn k w (some ⟨b, off, none⟩) n c zs) (p : Nat) (hp : p ≤ n) : RowIn k w (some ⟨b, off, none⟩) p c (zs.take p) := by
  have hl := h.len
  refine ⟨by simp; omega, fun e => by (cases e), fun i hi => ?_, by have := h.cap; omega⟩
  obtain ⟨b', off', e, hlt, hc⟩ := h.cell i (by omega)
  cases e
  refine ⟨_, _, rfl, hlt, hc.trans ?_⟩
  simp [List.getD_eq_getElem?_getD, hi]
theorem RowIn.behind {k : IntKind} {w : World} {b off n c : Nat} {zs : List Int} (h : RowIn k w (some ⟨b, off, none⟩) n c zs) (p : Nat) (hp : p ≤ n) : RowIn k w (some ⟨b, off + p, none⟩) (n - p) (c - p) (zs.drop p) := by
  have hl := h.len
  refine ⟨by simp; omega, fun e => by (cases e), fun i hi => ?_, by have := h.cap; omega⟩
  obtain ⟨b', off', e, hlt, hc⟩ := h.cell (p + i) (by omega)
  cases e
  refine ⟨_, _, rfl, hlt, ?_⟩
  rw [Nat.add_assoc, hc]
  simp [List.getD_eq_getElem?_getD]
theorem RowIn.behind0 {k : IntKind} {w : World} {b off n c : Nat} {zs : List Int} (h : RowIn k w (some ⟨b, off, none⟩) n c zs) : RowIn k w (some ⟨b, off, none⟩) 0 0 (zs.drop n) :=
  ⟨by have := h.len; simp; omega, fun e => by (cases e), fun i hi => by omega, by simp⟩

/-- a vote of the call's own, whose list of validators grows -/
structure Grow (w0 : World) (s h se sr te tr : Int) (zs : List Int) (ao : Option Addr) (n d : Nat) (wr : World) : Prop where
  v : VAt wr w0.heap.size s h se sr te tr ao n d
  f : wr.frozen? ⟨w0.heap.size, 6, none⟩ = false
  own : wr.ownsRow (w0.heap.size + 1) 3 1 (.slice ao n d) n (zs.map (Value.int .i64))
  bel : Below w0.heap.size w0 wr

theorem Grow.first (w0 : World) (s h se sr te tr : Int) : Grow w0 s h se sr te tr [] none 0 0 (w0.alloc (vobj s h se sr te tr none 0 0)) :=
  ⟨VAt.lit w0 w0.heap.size rfl s h se sr te tr none 0 0, by simp [go_sem], World.ownsRow_nil _ _ _ _, (Below.refl _ _).alloc (Nat.le_refl _) _⟩

theorem Grow.step {w0 : World} {s h se sr te tr : Int} {zs : List Int} {ao : Option Addr} {n d : Nat} {wr : World} (g : Grow w0 s h se sr te tr zs ao n d wr) {wq w4 : World} (hb : Below wr.heap.size wr wq) (ao4 : Option Addr) (n4 d4 : Nat) (ys : List Int)
    (hg : wq.grownBy w4 (Value.slice ao n d).ownBlock) (hown : w4.ownsRow (w0.heap.size + 1) 3 1 (.slice ao4 n4 d4) n4 (ys.map (Value.int .i64))) :
    w4.cell? ⟨w0.heap.size, 6, none⟩ = some (.slice ao n d) ∧ w4.frozen? ⟨w0.heap.size, 6, none⟩ = false ∧ Grow w0 s h se sr te tr ys ao4 n4 d4 (w4.setCell ⟨w0.heap.size, 6, none⟩ (.slice ao4 n4 d4)) := by
  have hrow : ∀ j, (Value.slice ao n d).ownBlock = some j → w0.heap.size + 1 ≤ j := fun j hj => (g.own.lt j hj).1
  have hne : ∀ j, j < w0.heap.size + 1 → some j ≠ (Value.slice ao n d).ownBlock := fun j hj e => by have := hrow j e.symm; omega
  have hlt := g.v.lt
  have hbl : ∀ j, j < w0.heap.size + 1 → w4.heap[j]? = wr.heap[j]? := fun j hj => by
    rw [hg.block j (by have := hb.size; omega) (hne j hj)]
    exact hb.block j (by omega)
  have hcell : ∀ i, w4.cell? ⟨w0.heap.size, i, none⟩ = wr.cell? ⟨w0.heap.size, i, none⟩ := fun i => World.cell?_of_block (a := ⟨w0.heap.size, i, none⟩) (hbl _ (by simp))
  have hfroz : w4.frozen? ⟨w0.heap.size, 6, none⟩ = wr.frozen? ⟨w0.heap.size, 6, none⟩ := World.frozen?_of_block (a := ⟨w0.heap.size, 6, none⟩) (hbl _ (by simp))
  have hsz : wr.heap.size ≤ w4.heap.size := Nat.le_trans hb.size hg.size
  have hv : VAt w4 w0.heap.size s h se sr te tr ao n d :=
    ⟨by omega, by rw [hcell]; exact g.v.c0, by rw [hcell]; exact g.v.c1, by rw [hcell]; exact g.v.c2, by rw [hcell]; exact g.v.c3, by rw [hcell]; exact g.v.c4, by rw [hcell]; exact g.v.c5, by rw [hcell]; exact g.v.c6⟩
  refine ⟨hv.c6, hfroz.trans g.f, hv.set6 _ _ _, ?_, ownsRow_setCell_below hown (by simp) _, ?_⟩
  · rw [World.frozen?_setCell]; exact hfroz.trans g.f
  · exact ((g.bel.trans (hb.mono (by have := g.bel.size; omega))).grown hg (by have := g.bel.size; have := hb.size; omega) (fun j hj => by have := hrow j hj; omega)).setCell (by simp) _
end Go.Proofs.YtbmajbbgfolmiaaDoor

/- Contracts of psephoslaw03's rest and Make: a configuration that may be, of any. -/
import Derived.Test.YtfkabmgbcdoijaaCfMay

import Derived.Test.YtfkabmgbcdoijaaRowLaws

import Derived.Deep.RegionHeld3

namespace Go.Proofs.Ytfkabmgbcdoijaa

open Go.ChangeShapes Go.WideShapes Go.ChangeAt Go.RowKit

set_option linter.unusedVariables false

theorem rest_math (n m : Int) (hm : 0 < m) : (n.tmod m + m).tmod m = n % m := by
  have h1 : n.tmod m = _ := Int.tmod_eq_emod
  have h2 := Int.emod_nonneg n (show m ≠ 0 by omega)
  have h3 := Int.emod_lt_of_pos n hm
  rw [h1]
  split
  · rw [show n % m - ((0 : Nat) : Int) + m = n % m + m by omega, Int.tmod_eq_emod_of_nonneg (by omega), Int.add_emod_right, Int.emod_eq_of_lt h2 h3]
  · rw [show n % m - ((m.natAbs : Nat) : Int) + m = n % m by omega, Int.tmod_eq_emod_of_nonneg h2, Int.emod_eq_of_lt h2 h3]
/-- what Make makes of balances, of a number of slots, of a boost -/
def mkOne (b : Int) : Int := b % 4294967297
def mkBs (bs : List Int) : List Int := if bs = [] then [7] else (bs.take 4096).map mkOne
def mkS (s : Int) : Int := 1 + IntKind.i64.wrap (s - 1) % 64
def mkB (b : Int) : Int := b % 101

/-- what has been made after k balances -/
def mkL (bs : List Int) (k : Nat) : List Int := ((bs.take 4096).take k).map mkOne
theorem mkL_zero (bs : List Int) : mkL bs 0 = [] := rfl
theorem mkL_succ (bs : List Int) (k : Nat) (h : k < bs.length) (h2 : k < 4096) : mkL bs (k + 1) = mkL bs k ++ [mkOne (bs.getD k 0)] := by
  unfold mkL
  rw [List.take_succ_eq_append_getElem (show k < (bs.take 4096).length by simp; omega), List.map_append]
  simp [List.getD_eq_getElem?_getD, List.getElem?_eq_getElem h]
theorem mkL_more (bs : List Int) (k : Nat) (h2 : 4096 ≤ k) : mkL bs (k + 1) = mkL bs k := by
  unfold mkL
  rw [List.take_of_length_le (i := k + 1) (by simp <;> omega), List.take_of_length_le (i := k) (by simp <;> omega)]
theorem mkL_len (bs : List Int) (k : Nat) : (mkL bs k).length ≤ 4096 := by unfold mkL; simp; omega
theorem mkL_all (bs : List Int) (h : bs ≠ []) : mkL bs bs.length = mkBs bs := by
  unfold mkL mkBs
  rw [if_neg h, List.take_of_length_le (by simp; omega)]

theorem mkBs_len (bs : List Int) : 1 ≤ (mkBs bs).length ∧ (mkBs bs).length ≤ 4096 := by
  unfold mkBs
  split
  · simp
  · rename_i h
    have := List.length_pos_iff.2 h
    simp only [List.length_map, List.length_take]
    omega
theorem mkBs_b (bs : List Int) : ∀ z ∈ mkBs bs, 0 ≤ z ∧ z ≤ 4294967296 := by
  unfold mkBs
  split
  · intro z hz; simp at hz; omega
  · intro z hz
    obtain ⟨x, _, rfl⟩ := List.mem_map.1 hz
    unfold mkOne
    omega
theorem mkS_b (s : Int) : 1 ≤ mkS s ∧ mkS s ≤ 64 := by unfold mkS; omega
theorem mkB_b (b : Int) : 0 ≤ mkB b ∧ mkB b ≤ 100 := by unfold mkB; omega

structure MkInv (w : World) (bs : List Int) (S B : Int) (k : Nat) (ao : Option Addr) (d : Nat) (wr : World) : Prop where
  c0 : wr.cell? ⟨w.heap.size + 1 + 1, 0, none⟩ = some (.slice ao (mkL bs k).length d)
  c1 : wr.cell? ⟨w.heap.size + 1 + 1, 1, none⟩ = some (.int .i64 S)
  c2 : wr.cell? ⟨w.heap.size + 1 + 1, 2, none⟩ = some (.int .i64 B)
  r : ∀ i, i < 3 → ∃ v, wr.cell? ⟨w.heap.size + 1, i, none⟩ = some v
  f : ∀ i, wr.frozen? ⟨w.heap.size + 1 + 1, i, none⟩ = false
  fr : ∀ i, wr.frozen? ⟨w.heap.size + 1, i, none⟩ = false
  own : wr.ownsRow (w.heap.size + 3) 29 1 (.slice ao (mkL bs k).length d) (mkL bs k).length ((mkL bs k).map (Value.int .u64))
  bel : Below w.heap.size w wr
  size : w.heap.size + 3 ≤ wr.heap.size

theorem MkInv.step {w : World} {bs : List Int} {S B : Int} {k : Nat} {ao : Option Addr} {d : Nat} {wr : World} (h : MkInv w bs S B k ao d wr) (n : Nat) (hn : (mkL bs k).length = n) (y : Int) (hy : mkL bs (k + 1) = mkL bs k ++ [y])
    (o : Obj) (w4 : World) (ao4 : Option Addr) (d4 : Nat) (hg : (wr.alloc o).grownBy w4 (Value.slice ao n d).ownBlock)
    (hown : w4.ownsRow (w.heap.size + 3) 29 1 (.slice ao4 (n + 1) d4) (n + 1) ((mkL bs k ++ [y]).map (Value.int .u64))) :
    w4.cell? ⟨w.heap.size + 1 + 1, 0, none⟩ = some (.slice ao n d) ∧ w4.frozen? ⟨w.heap.size + 1 + 1, 0, none⟩ = false ∧
      MkInv w bs S B (k + 1) ao4 d4 (w4.setCell ⟨w.heap.size + 1 + 1, 0, none⟩ (.slice ao4 (n + 1) d4)) := by
  subst hn
  have hrow : ∀ j, (Value.slice ao (mkL bs k).length d).ownBlock = some j → w.heap.size + 3 ≤ j := fun j hj => (h.own.lt j hj).1
  have hne : ∀ j, j < w.heap.size + 3 → some j ≠ (Value.slice ao (mkL bs k).length d).ownBlock := fun j hj e => by have := hrow j e.symm; omega
  have hbl : ∀ j, j < w.heap.size + 3 → w4.heap[j]? = wr.heap[j]? := fun j hj => by
    rw [hg.block j (by have := h.size; simp; omega) (hne j hj)]
    exact Below.heap_alloc _ _ _ (by have := h.size; omega)
  have hcell : ∀ b i, b < w.heap.size + 3 → w4.cell? ⟨b, i, none⟩ = wr.cell? ⟨b, i, none⟩ := fun b i hb => World.cell?_of_block (a := ⟨b, i, none⟩) (hbl b hb)
  have hfroz : ∀ b i, b < w.heap.size + 3 → w4.frozen? ⟨b, i, none⟩ = wr.frozen? ⟨b, i, none⟩ := fun b i hb => World.frozen?_of_block (a := ⟨b, i, none⟩) (hbl b hb)
  have e0 : w4.cell? ⟨w.heap.size + 1 + 1, 0, none⟩ = some (.slice ao (mkL bs k).length d) := (hcell _ _ (by omega)).trans h.c0
  have hlen : (mkL bs (k + 1)).length = (mkL bs k).length + 1 := by rw [hy]; simp
  refine ⟨e0, (hfroz _ _ (by omega)).trans (h.f 0), ?_⟩
  constructor
  case c0 => rw [World.cell?_setCell_same _ _ _ e0, hlen]
  case c1 => rw [World.cell?_setCell_other _ _ _ _ (by simp), hcell _ _ (by omega)]; exact h.c1
  case c2 => rw [World.cell?_setCell_other _ _ _ _ (by simp), hcell _ _ (by omega)]; exact h.c2
  case r => intro i hi; rw [World.cell?_setCell_other _ _ _ _ (by simp), hcell _ _ (by omega)]; exact h.r i hi
  case f => intro i; rw [World.frozen?_setCell, hfroz _ _ (by omega)]; exact h.f i
  case fr => intro i; rw [World.frozen?_setCell, hfroz _ _ (by omega)]; exact h.fr i
  case own => rw [hlen, hy]; exact ownsRow_setCell_below hown (by simp) _
  case bel => exact ((h.bel.alloc (by have := h.size; omega) o).grown hg (by have := h.size; simp; omega) (fun j hj => by have := hrow j hj; omega)).setCell (by simp; omega) _
  case size => have := hg.size; have := h.size; simp at *; omega

theorem MkInv.skip {w : World} {bs : List Int} {S B : Int} {k : Nat} {ao : Option Addr} {d : Nat} {wr : World} (h : MkInv w bs S B k ao d wr) (hk : 4096 ≤ k) : MkInv w bs S B (k + 1) ao d wr := by
  have e := mkL_more bs k hk
  exact ⟨by rw [e]; exact h.c0, h.c1, h.c2, h.r, h.f, h.fr, by rw [e]; exact h.own, h.bel, h.size⟩

theorem info64 : (Try.prog.info? 29).map (fun i => (i.zero, i.size, i.bytes)) = some (some (.int .u64 0), 1, 8) := by kernel_rfl

end Go.Proofs.Ytfkabmgbcdoijaa

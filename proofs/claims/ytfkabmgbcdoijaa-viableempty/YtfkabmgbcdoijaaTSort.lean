/- Rows of numbers that are sorted in place; contracts of slices.insertionSortOrdered, and of slices.Sort of up to twelve numbers of 64 bits without a sign. -/
import Derived.Test.YtfkabmgbcdoijaaTSearch


import Derived.Test.YtfkabmgbcdoijaaObjs

import Derived.Sort.LotA

import Derived.WalkKit

import Derived.BigGuard

import Derived.BigCall

import Derived.CellFam

import Derived.Deep.Draws

import Derived.Deep.QuietTactic

import Derived.BigQuiet

namespace Go.Proofs.Ytfkabmgbcdoijaa

open Go.ChangeShapes Go.WideShapes Go.ChangeAt Go.RowKit

open Go.Sort (swp insInner insOuter insertionSort ltInt PermIn SortedIn SWO)

set_option linter.unusedVariables false

/-- block g holds the numbers d, nothing but it has turned since w0 -/
structure SRow (w0 : World) (base g cap : Nat) (d : Array Int) (w : World) : Prop where
  own : w.ownsRow base 29 1 (.slice (some ⟨g, 0, none⟩) d.size cap) d.size (d.toList.map (Value.int .u64))
  apart : Apart g w0 w
theorem SRow.cell {w0 w : World} {base g cap : Nat} {d : Array Int} (h : SRow w0 base g cap d w) (j : Nat) (hj : j < d.size) : w.cell? ⟨g, j, none⟩ = some (.int .u64 d[j]!) := by
  rw [h.own.cellAt j (by omega)]
  simp [hj]
theorem SRow.obj {w0 w : World} {base g cap : Nat} {d : Array Int} (h : SRow w0 base g cap d w) : ∃ C, w.heap[g]? = some (.cells C 29 (0, 0)) ∧ base ≤ g ∧ d.size ≤ cap ∧ cap ≤ maxLen ∧ C.size = cap ∧ C.toList.take d.size = d.toList.map (Value.int .u64) := by
  rcases h.own.2 with ⟨e, _⟩ | ⟨g', c', cur, e, h1, h2, h3, h4, h5, h6⟩
  · cases e
  · cases e
    exact ⟨cur, h2, h1, h3, h4, by omega, by rw [← h6, Nat.mul_one]⟩
theorem SRow.frozen {w0 w : World} {base g cap : Nat} {d : Array Int} (h : SRow w0 base g cap d w) (j : Nat) : w.frozen? ⟨g, j, none⟩ = false := by
  obtain ⟨C, hC, _⟩ := h.obj
  unfold World.frozen?
  rw [hC]
  simp
theorem SRow.drewN {w0 w : World} {base g cap : Nat} {d : Array Int} (h : SRow w0 base g cap d w) (q : Nat) : SRow w0 base g cap d (w.drewN q) := ⟨h.own, h.apart.trans (.of ⟨rfl, rfl, rfl, Nat.le_refl _, fun _ _ => rfl⟩)⟩
theorem SRow.drew {w0 w : World} {base g cap : Nat} {d : Array Int} (h : SRow w0 base g cap d w) : SRow w0 base g cap d w.drew := ⟨h.own, h.apart.drew⟩
theorem SRow.alloc {w0 w : World} {base g cap : Nat} {d : Array Int} (h : SRow w0 base g cap d w) (o : Obj) : SRow w0 base g cap d (w.alloc o) := ⟨h.own.alloc o, h.apart.alloc o⟩
theorem SRow.lt {w0 w : World} {base g cap : Nat} {d : Array Int} (h : SRow w0 base g cap d w) : g < w.heap.size := (h.own.lt g rfl).2
theorem SRow.set {w0 w : World} {base g cap : Nat} {d : Array Int} (h : SRow w0 base g cap d w) (i : Nat) (x : Int) (hi : i < d.size) : SRow w0 base g cap (d.setIfInBounds i x) (w.setCell ⟨g, i, none⟩ (.int .u64 x)) := by
  obtain ⟨C, hC, h1, h2, h3, h4, h5⟩ := h.obj
  refine ⟨⟨by simp, .inr ⟨g, cap, _, by simp, h1, set_obj hC i _, by simpa using h2, h3, by simpa using h4, ?_⟩⟩, h.apart.set i _⟩
  have e : ∀ k : Nat, (C.toList.take d.size)[k]? = (d.toList.map (Value.int .u64))[k]? := fun k => by rw [h5]
  apply List.ext_getElem?
  intro k
  have ek := e k
  simp only [List.getElem?_take, List.getElem?_map, Array.getElem?_toList] at ek ⊢
  simp only [Array.size_setIfInBounds, Nat.mul_one]
  by_cases hk : k < d.size
  · rw [if_pos hk] at ek ⊢
    by_cases hki : k = i
    · subst hki
      rw [Array.getElem?_setIfInBounds_self_of_lt (by omega), Array.getElem?_setIfInBounds_self_of_lt hk]
      rfl
    · rw [Array.getElem?_setIfInBounds_ne (fun h => hki h.symm), Array.getElem?_setIfInBounds_ne (fun h => hki h.symm)]
      exact ek
  · rw [if_neg hk, Array.getElem?_eq_none (by simp; omega)]
    rfl
theorem SRow.swap {w0 w : World} {base g cap : Nat} {d : Array Int} (h : SRow w0 base g cap d w) (i j : Nat) (hi : i < d.size) (hj : j < d.size) : SRow w0 base g cap (swp d i j) ((w.setCell ⟨g, i, none⟩ (.int .u64 d[j]!)).setCell ⟨g, j, none⟩ (.int .u64 d[i]!)) :=
  (h.set i _ hi).set j _ (by simpa using hj)
theorem SRow.start {w : World} {base g n cap : Nat} {zs : List Int} (h : w.ownsRow base 29 1 (.slice (some ⟨g, 0, none⟩) n cap) n (zs.map (Value.int .u64))) : SRow w base g cap zs.toArray w := by
  have hl : zs.length = n := by have := h.1; simpa using this
  subst hl
  exact ⟨by simpa using h, Apart.refl _ _⟩
theorem size_swpI (d : Array Int) (i j : Nat) : (swp d i j).size = d.size := by simp [swp]

section
theorem inner_go (a j : Nat) (d : Array Int) (hj : a < j) (hl : ltInt d[j]! d[j - 1]! = true) : insInner ltInt a j d = insInner ltInt a (j - 1) (swp d j (j - 1)) := by
  obtain ⟨k, rfl⟩ : ∃ k, j = k + 1 := ⟨j - 1, by omega⟩
  simp only [Nat.add_sub_cancel] at hl ⊢
  rw [insInner]
  simp [hj, hl]
theorem inner_stop (a j : Nat) (d : Array Int) (h : j ≤ a ∨ ltInt d[j]! d[j - 1]! = false) : insInner ltInt a j d = d := by
  cases j with
  | zero => rw [insInner]
  | succ k =>
    rw [insInner]
    simp only [Nat.add_sub_cancel] at h
    rcases h with h | h
    · simp [show ¬ k + 1 > a by omega]
    · simp [h]
end
theorem less_quiet (x y : Int) (w : World) : Calls Try.prog 31 #[.int .u64 x, .int .u64 y] w fun e w' => e = .returned (.bool (ltInt x y)) ∧ w' = w := less_any x y w

/-- a list's numbers, rising -/
def rise (zs : List Int) : List Int := zs.mergeSort fun x y => decide (x ≤ y)
theorem rise_perm (zs : List Int) : (rise zs).Perm zs := List.mergeSort_perm zs _
theorem rise_len (zs : List Int) : (rise zs).length = zs.length := (rise_perm zs).length_eq
theorem rise_le (zs : List Int) : (rise zs).Pairwise (· ≤ ·) := by
  have h := List.pairwise_mergeSort (le := fun (x y : Int) => decide (x ≤ y)) (fun a b c h1 h2 => by simp at *; omega) (fun a b => by simp; omega) zs
  exact h.imp (fun h => by simpa using h)
theorem rise_of (zs : List Int) (d : Array Int) (hp : PermIn 0 zs.length zs.toArray d) (hs : SortedIn ltInt 0 zs.length d) : d.toList = rise zs := by
  have h := Go.Sort.sorted_unique_holds (lt := ltInt) Go.Sort.swo_ltInt (fun x y h1 h2 => by simp [ltInt] at h1 h2; omega) zs.toArray d (by simpa using hp) (by simpa using hs)
  rw [h, rise]
  congr 1
  funext x y
  simp only [ltInt]
  by_cases h : x ≤ y
  · simp [h]
  · simp [h]; omega
/-- what Sort leaves -/
def SortedAt (w : World) (base : Nat) (v : Value) (n : Nat) (zs : List Int) (e : Ending) (w' : World) : Prop :=
  e = .returned (.tuple #[]) ∧ w'.ownsRow base 29 1 v n ((rise zs).map (Value.int .u64)) ∧ w.grownBy w' v.ownBlock
theorem SRow.sorted {w w' : World} {base g cap : Nat} {zs : List Int} {d : Array Int} (h : SRow w base g cap d w') (hp : PermIn 0 zs.length zs.toArray d) (hs : SortedIn ltInt 0 zs.length d) :
    SortedAt w base (.slice (some ⟨g, 0, none⟩) zs.length cap) zs.length zs (.returned (.tuple #[])) w' := by
  have hsz : d.size = zs.length := by have := hp.1; simpa using this
  refine ⟨rfl, ?_, h.apart.os, h.apart.tape, h.apart.output, h.apart.size, fun k hk hr => h.apart.block k hk (fun e => hr (by rw [e]; rfl))⟩
  have := h.own
  rw [hsz, rise_of zs d hp hs] at this
  exact this
end Go.Proofs.Ytfkabmgbcdoijaa

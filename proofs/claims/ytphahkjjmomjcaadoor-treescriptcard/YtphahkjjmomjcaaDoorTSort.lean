/- Rows of numbers that are sorted in place; contracts of slices.insertionSortOrdered, and of slices.Sort of up to twelve numbers of 64 bits without a sign. -/
import Derived.Test.YtphahkjjmomjcaaDoorTSearch

import Derived.Test.YtphahkjjmomjcaaDoorShelf

import Derived.Test.YtphahkjjmomjcaaDoorObjs

import Derived.Sort.LotA

import Derived.WalkKit

import Derived.BigGuard

import Derived.BigCall

import Derived.CellFam

import Derived.Deep.Draws

import Derived.Deep.QuietTactic

import Derived.BigQuiet

namespace Go.Proofs.YtphahkjjmomjcaaDoor

open Go.ChangeShapes Go.WideShapes Go.ChangeAt Go.RowKit

open Go.Sort (swp insInner insOuter insertionSort ltInt PermIn SortedIn SWO)

set_option linter.unusedVariables false

/-- block g holds the numbers d, nothing but it has turned since w0 -/
structure SRow (w0 : World) (base g cap : Nat) (d : Array Int) (w : World) : Prop where
  own : w.ownsRow base 26 1 (.slice (some ⟨g, 0, none⟩) d.size cap) d.size (d.toList.map (Value.int .u64))
  apart : Apart g w0 w
theorem SRow.cell {w0 w : World} {base g cap : Nat} {d : Array Int} (h : SRow w0 base g cap d w) (j : Nat) (hj : j < d.size) : w.cell? ⟨g, j, none⟩ = some (.int .u64 d[j]!) := by
  rw [h.own.cellAt j (by omega)]
  simp [hj]
theorem SRow.obj {w0 w : World} {base g cap : Nat} {d : Array Int} (h : SRow w0 base g cap d w) : ∃ C, w.heap[g]? = some (.cells C 26 (0, 0)) ∧ base ≤ g ∧ d.size ≤ cap ∧ cap ≤ maxLen ∧ C.size = cap ∧ C.toList.take d.size = d.toList.map (Value.int .u64) := by
  rcases h.own.2 with ⟨e, _⟩ | ⟨g', c', cur, e, h1, h2, h3, h4, h5, h6⟩
  · cases e
  · cases e
    exact ⟨cur, h2, h1, h3, h4, by omega, by rw [← h6, Nat.mul_one]⟩
theorem SRow.frozen {w0 w : World} {base g cap : Nat} {d : Array Int} (h : SRow w0 base g cap d w) (j : Nat) : w.frozen? ⟨g, j, none⟩ = false := by
  obtain ⟨C, hC, _⟩ := h.obj
  unfold World.frozen?
  rw [hC]
  simp
theorem SRow.drewN {w0 w : World} {base g cap : Nat} {d : Array Int} (h : SRow w0 base g cap d w) (q : Nat) : SRow w0 base g cap d (w.drewN q) := ⟨h.own, h.apart.trans (.of ⟨rfl, rfl, rfl, Nat.le_refl _, fun _ _ => rfl⟩)⟩
theorem SRow.drew {w0 w : World} {base g cap : Nat} {d : Array Int} (h : SRow w0 base g cap d w) : SRow w0 base g cap d w.drew := ⟨h.own, h.apart.drew⟩
theorem SRow.alloc {w0 w : World} {base g cap : Nat} {d : Array Int} (h : SRow w0 base g cap d w) (o : Obj) : SRow w0 base g cap d (w.alloc o) := ⟨h.own.alloc o, h.apart.alloc o⟩
theorem SRow.lt {w0 w : World} {base g cap : Nat} {d : Array Int} (h : SRow w0 base g cap d w) : g < w.heap.size := (h.own.lt g rfl).2
theorem SRow.set {w0 w : World} {base g cap : Nat} {d : Array Int} (h : SRow w0 base g cap d w) (i : Nat) (x : Int) (hi : i < d.size) : SRow w0 base g cap (d.setIfInBounds i x) (w.setCell ⟨g, i, none⟩ (.int .u64 x)) := by
  obtain ⟨C, hC, h1, h2, h3, h4, h5⟩ := h.obj
  refine ⟨⟨by simp, .inr ⟨g, cap, _, by simp, h1, set_obj hC i _, by simpa using h2, h3, by simpa using h4, ?_⟩⟩, h.apart.set i _⟩
  have e : ∀ k : Nat, (C.toList.take d.size)[k]? = (d.toList.map (Value.int .u64))[k]? := fun k => by rw [h5]
  apply List.ext_getElem?
  intro k
  have ek := e k
  simp only [List.getElem?_take, List.getElem?_map, Array.getElem?_toList] at ek ⊢
  simp only [Array.size_setIfInBounds, Nat.mul_one]
  by_cases hk : k < d.size
  · rw [if_pos hk] at ek ⊢
    by_cases hki : k = i
    · subst hki
      rw [Array.getElem?_setIfInBounds_self_of_lt (by omega), Array.getElem?_setIfInBounds_self_of_lt hk]
      rfl
    · rw [Array.getElem?_setIfInBounds_ne (fun h => hki h.symm), Array.getElem?_setIfInBounds_ne (fun h => hki h.symm)]
      exact ek
  · rw [if_neg hk, Array.getElem?_eq_none (by simp; omega)]
    rfl
theorem SRow.swap {w0 w : World} {base g cap : Nat} {d : Array Int} (h : SRow w0 base g cap d w) (i j : Nat) (hi : i < d.size) (hj : j < d.size) : SRow w0 base g cap (swp d i j) ((w.setCell ⟨g, i, none⟩ (.int .u64 d[j]!)).setCell ⟨g, j, none⟩ (.int .u64 d[i]!)) :=
  (h.set i _ hi).set j _ (by simpa using hj)
theorem SRow.start {w : World} {base g n cap : Nat} {zs : List Int} (h : w.ownsRow base 26 1 (.slice (some ⟨g, 0, none⟩) n cap) n (zs.map (Value.int .u64))) : SRow w base g cap zs.toArray w := by
  have hl : zs.length = n := by have := h.1; simpa using this
  subst hl
  exact ⟨by simpa using h, Apart.refl _ _⟩
theorem size_swpI (d : Array Int) (i j : Nat) : (swp d i j).size = d.size := by simp [swp]

section
theorem inner_go (a j : Nat) (d : Array Int) (hj : a < j) (hl : ltInt d[j]! d[j - 1]! = true) : insInner ltInt a j d = insInner ltInt a (j - 1) (swp d j (j - 1)) := by
  obtain ⟨k, rfl⟩ : ∃ k, j = k + 1 := ⟨j - 1, by omega⟩
  simp only [Nat.add_sub_cancel] at hl ⊢
  rw [insInner]
  simp [hj, hl]
theorem inner_stop (a j : Nat) (d : Array Int) (h : j ≤ a ∨ ltInt d[j]! d[j - 1]! = false) : insInner ltInt a j d = d := by
  cases j with
  | zero => rw [insInner]
  | succ k =>
    rw [insInner]
    simp only [Nat.add_sub_cancel] at h
    rcases h with h | h
    · simp [show ¬ k + 1 > a by omega]
    · simp [h]
end
theorem less_quiet (x y : Int) (w : World) : Calls Tryd.prog 35 #[.int .u64 x, .int .u64 y] w fun e w' => e = .returned (.bool (ltInt x y)) ∧ w' = w := less_any x y w

set_option maxRecDepth 100000 in
set_option maxHeartbeats 2000000 in
theorem insertion_any (base g cap a b : Nat) (d : Array Int) (w0 w : World) (hR : SRow w0 base g cap d w) (hab : a ≤ b) (hb : b ≤ d.size) (hsz : d.size < 4611686018427387904) :
    Calls Tryd.prog 39 #[.slice (some ⟨g, 0, none⟩) d.size cap, .int .i64 a, .int .i64 b] w fun e w' =>
      e = .returned (.tuple #[]) ∧ SRow w0 base g cap (insertionSort ltInt d a b) w' := by
  obtain ⟨n, hn⟩ : ∃ n, d.size = n := ⟨_, rfl⟩
  have HR := hide hR
  have HN := hide hn
  rw [hn] at hb hsz ⊢
  clear hR hn
  go_enter Tryd.func39, Tryd.ntmps39
  go_wp2
  go_loopw [6] (fun vi wr => ∃ (i : Nat) (dk : Array Int), vi = .int .i64 i ∧ a < i ∧ i ≤ b + 1 ∧ Hid (dk.size = n ∧ SRow w0 base g cap dk wr ∧ insOuter ltInt a b i dk = insertionSort ltInt d a b)) (fun vi _ => b + 1 - (intOf vi).toNat)
  case atStart => exact ⟨a + 1, d, by go_num, by omega, by omega, hide ⟨HN.out, HR.out, rfl⟩⟩
  case round =>
    obtain ⟨i, dk, rfl, hai, hib, hI⟩ := hrel
    clear HR
    by_cases hlt : i < b
    · go_wp2
      go_loopw [7] (fun vj wr2 => ∃ (j : Nat) (dj : Array Int), vj = .int .i64 j ∧ a ≤ j ∧ j ≤ i ∧ Hid (dj.size = n ∧ SRow w0 base g cap dj wr2 ∧ insInner ltInt a j dj = insInner ltInt a i dk)) (fun vj _ => (intOf vj).toNat)
      case atStart => exact ⟨i, dk, rfl, by omega, Nat.le_refl _, hide ⟨hI.out.1, hI.out.2.1, rfl⟩⟩
      case round =>
        obtain ⟨j, dj, rfl, haj, hji, hJ⟩ := hrel
        obtain ⟨G, hG⟩ : ∃ G : Nat → Int, Hid (∀ t, G t = dj[t]!) := ⟨fun t => dj[t]!, fun _ => rfl⟩
        have hcw : ∀ t, t < n → wr.cell? ⟨g, t, none⟩ = some (.int .u64 (G t)) := fun t ht => by
          rw [hG.out]; exact hJ.out.2.1.cell t (by rw [hJ.out.1]; exact ht)
        have hfw : ∀ t, t < n → wr.frozen? ⟨g, t, none⟩ = false := fun t ht => hJ.out.2.1.frozen t
        have OUT : Hid ((j ≤ a ∨ ltInt (G j) (G (j - 1)) = false) → ∀ w', (SRow w0 base g cap dj w') → ∃ i' dk', Value.int .i64 ((i : Int) + 1) = .int .i64 (i' : Nat) ∧ a < i' ∧ i' ≤ b + 1 ∧ Hid (dk'.size = n ∧ SRow w0 base g cap dk' w' ∧ insOuter ltInt a b i' dk' = insertionSort ltInt d a b)) := fun hs w' hw' =>
          ⟨i + 1, dj, by go_num, by omega, by omega, hide ⟨hJ.out.1, hw', by
            rw [hG.out, hG.out] at hs
            rw [← hI.out.2.2]
            conv => rhs; rw [insOuter, if_pos hlt]
            rw [← hJ.out.2.2, inner_stop _ _ _ hs]⟩⟩
        go_wp2
        by_cases hja : a < j
        · have hjn : j < n := by omega
          have hjn1 : j - 1 < n := by omega
          go_quiet (first | (go_at_call 35; refine Calls.quiet_of_same (less_quiet _ _ _)))
          go_wp2
          · have hl : ltInt (G j) (G (j - 1)) = true := by assumption
            go_region
            all_goals go_wp2
            go_roundw
            case rel =>
              refine ⟨j - 1, swp dj j (j - 1), by congr 1; omega, by omega, by omega, hide ⟨by rw [size_swpI]; exact hJ.out.1, ?_, ?_⟩⟩
              · rw [hG.out, hG.out]
                exact (hJ.out.2.1.drewN (nq + 1)).swap j (j - 1) (by rw [hJ.out.1]; omega) (by rw [hJ.out.1]; omega)
              · rw [← hJ.out.2.2, inner_go a j dj hja (by rw [← hG.out, ← hG.out]; exact hl)]
            case measure => simp [intOf]; omega
          · have hl : ltInt (G j) (G (j - 1)) = false := by assumption
            go_roundw
            case rel => exact OUT.out (.inr hl) _ (hJ.out.2.1.drewN nq)
            case measure => simp [intOf]; omega
        · go_quiet (first | (go_at_call 35; refine Calls.quiet_of_same (less_quiet _ _ _)))
          go_wp2
          go_roundw
          case rel => exact OUT.out (.inl (by omega)) _ (hJ.out.2.1.drewN nq)
          case measure => simp [intOf]; omega
    · go_wp2
      go_end0
      refine ⟨rfl, ?_⟩
      have := hI.out.2.2
      rw [insOuter, if_neg hlt] at this
      rw [← this]
      exact hI.out.2.1

/-- a list's numbers, rising -/
def rise (zs : List Int) : List Int := zs.mergeSort fun x y => decide (x ≤ y)
theorem rise_perm (zs : List Int) : (rise zs).Perm zs := List.mergeSort_perm zs _
theorem rise_len (zs : List Int) : (rise zs).length = zs.length := (rise_perm zs).length_eq
theorem rise_le (zs : List Int) : (rise zs).Pairwise (· ≤ ·) := by
  have h := List.pairwise_mergeSort (le := fun (x y : Int) => decide (x ≤ y)) (fun a b c h1 h2 => by simp at *; omega) (fun a b => by simp; omega) zs
  exact h.imp (fun h => by simpa using h)
theorem rise_of (zs : List Int) (d : Array Int) (hp : PermIn 0 zs.length zs.toArray d) (hs : SortedIn ltInt 0 zs.length d) : d.toList = rise zs := by
  have h := Go.Sort.sorted_unique_holds (lt := ltInt) Go.Sort.swo_ltInt (fun x y h1 h2 => by simp [ltInt] at h1 h2; omega) zs.toArray d (by simpa using hp) (by simpa using hs)
  rw [h, rise]
  congr 1
  funext x y
  simp only [ltInt]
  by_cases h : x ≤ y
  · simp [h]
  · simp [h]; omega
/-- what Sort leaves -/
def SortedAt (w : World) (base : Nat) (v : Value) (n : Nat) (zs : List Int) (e : Ending) (w' : World) : Prop :=
  e = .returned (.tuple #[]) ∧ w'.ownsRow base 26 1 v n ((rise zs).map (Value.int .u64)) ∧ w.grownBy w' v.ownBlock
theorem SRow.sorted {w w' : World} {base g cap : Nat} {zs : List Int} {d : Array Int} (h : SRow w base g cap d w') (hp : PermIn 0 zs.length zs.toArray d) (hs : SortedIn ltInt 0 zs.length d) :
    SortedAt w base (.slice (some ⟨g, 0, none⟩) zs.length cap) zs.length zs (.returned (.tuple #[])) w' := by
  have hsz : d.size = zs.length := by have := hp.1; simpa using this
  refine ⟨rfl, ?_, h.apart.os, h.apart.tape, h.apart.output, h.apart.size, fun k hk hr => h.apart.block k hk (fun e => hr (by rw [e]; rfl))⟩
  have := h.own
  rw [hsz, rise_of zs d hp hs] at this
  exact this
theorem insertion_none (w : World) : Calls Tryd.prog 39 #[.slice none 0 0, .int .i64 0, .int .i64 0] w fun e w' => e = .returned (.tuple #[]) ∧ w' = w := by
  go_enter Tryd.func39, Tryd.ntmps39
  go_wp2
  go_loop [6] (fun v => v = .int .i64 1) (fun _ => 0)
  case atStart => rfl
  case round =>
    subst hrel
    go_wp2
    go_end0
    exact ⟨rfl, rfl⟩
set_option maxRecDepth 100000 in
set_option maxHeartbeats 1000000 in
theorem pdq_small (v : Value) (n : Nat) (l : Int) (w : World) (R : World → Prop) (hn : n ≤ 12) (h : Calls Tryd.prog 39 #[v, .int .i64 0, .int .i64 (n : Int)] w fun e w' => e = .returned (.tuple #[]) ∧ R w') :
    Calls Tryd.prog 28 #[v, .int .i64 0, .int .i64 (n : Int), .int .i64 l] w fun e w' => e = .returned (.tuple #[]) ∧ R w' := by
  have H := hide h
  clear h
  have hi : (n : Int) ≤ 12 := by omega
  go_enter Tryd.func28, Tryd.ntmps28
  go_wp2
  go_loop [1, 2] (fun x y => x = .int .i64 0 ∧ y = .int .i64 (n : Int)) (fun _ _ => 0)
  case atStart => exact ⟨rfl, rfl⟩
  case round =>
    obtain ⟨rfl, rfl⟩ := hrel
    go_wp2_with (go_at_call 39; refine H.out.mono ?_; rintro e w' ⟨rfl, hw⟩)
    refine bodyPost_ret (results_none rfl _ _ _) rfl ?_
    exact ⟨rfl, hw⟩
theorem sort_of (v : Value) (ao : Option Addr) (n c : Nat) (w : World) (R : World → Prop) (hv : v = .slice ao n c) (hn : n ≤ 9223372036854775807) (h : ∀ l : Int, Calls Tryd.prog 28 #[v, .int .i64 0, .int .i64 (n : Int), .int .i64 (Lib.bitLen n : Int)] w fun e w' => e = .returned (.tuple #[]) ∧ R w') :
    Calls Tryd.prog 19 #[v] w fun e w' => e = .returned (.tuple #[]) ∧ R w' := by
  subst hv
  have HL := hide (Tryd.bits_Len n w (by omega) (by omega))
  rw [show ((n : Nat) : Int).toNat = n from by omega] at HL
  have H := hide (h 0)
  clear h
  have hwu : IntKind.u64.wrap (n : Int) = (n : Int) := by rw [IntKind.wrap_u64]; omega
  generalize (Lib.bitLen n : Nat) = L at HL H
  go_enter Tryd.func19, Tryd.ntmps19
  go_wp2_with (first
    | (go_at_call 29; refine HL.out.mono ?_; rintro e w' ⟨rfl, hw⟩; obtain rfl : _ = w' := hw.symm)
    | (go_at_call 28; refine H.out.mono ?_; rintro e w' ⟨rfl, hw⟩))
  go_end0
  exact ⟨rfl, hw⟩
theorem sort_none (base : Nat) (w : World) : Calls Tryd.prog 19 #[.slice none 0 0] w (SortedAt w base (.slice none 0 0) 0 []) :=
  (sort_of _ none 0 0 w (fun w' => w' = w) rfl (by omega) (fun l => pdq_small _ 0 _ w _ (by omega) (insertion_none w))).mono fun e w' h => by
    obtain ⟨rfl, rfl⟩ := h
    exact ⟨rfl, by simpa [rise] using World.ownsRow_nil _ _ _ _, World.grownBy.refl _ _⟩
theorem sort_small (base g cap : Nat) (zs : List Int) (w : World) (h : w.ownsRow base 26 1 (.slice (some ⟨g, 0, none⟩) zs.length cap) zs.length (zs.map (Value.int .u64))) (hn : zs.length ≤ 12) :
    Calls Tryd.prog 19 #[.slice (some ⟨g, 0, none⟩) zs.length cap] w (SortedAt w base (.slice (some ⟨g, 0, none⟩) zs.length cap) zs.length zs) := by
  have hR := SRow.start h
  have hi := insertion_any base g cap 0 zs.length zs.toArray w w hR (Nat.zero_le _) (by simp) (by simp; omega)
  simp only [List.size_toArray] at hi
  refine (sort_of _ _ zs.length cap w _ rfl (by omega) (fun l => pdq_small _ zs.length _ w _ hn hi)).mono fun e w' h => ?_
  obtain ⟨rfl, hS⟩ := h
  have hp := Go.Sort.insertionSort_holds (lt := ltInt) Go.Sort.swo_ltInt zs.toArray 0 zs.length (Nat.zero_le _) (by simp)
  exact hS.sorted hp.1 hp.2
end Go.Proofs.YtphahkjjmomjcaaDoor

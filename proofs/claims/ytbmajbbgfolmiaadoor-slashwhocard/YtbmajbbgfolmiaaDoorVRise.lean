/- Contract of vote.rising: a list's numbers in order, each once, in memory of the call's own. -/
import Derived.Test.YtbmajbbgfolmiaaDoorRows

import Derived.Test.YtbmajbbgfolmiaaDoorShelf

import Derived.Test.YtbmajbbgfolmiaaDoorRowLaws

import Derived.WalkKit

import Derived.ProofKit

import Derived.ChangeOld

import Derived.Sort.OwnSortedInts

import Derived.Sort.Grow

import Derived.Lib.OwnBridge

import Derived.Lib.RowBridge

namespace Go.Proofs.YtbmajbbgfolmiaaDoor

open Go.ChangeShapes Go.WideShapes Go.ChangeAt Go.RowKit Go.Sort

set_option linter.unusedVariables false

/-- a list's numbers in order -/
def srt (zs : List Int) : List Int := zs.mergeSort fun x y => decide (x ≤ y)
/-- .. each once -/
def ris (zs : List Int) : List Int := Lib.compact (srt zs)

theorem srt_perm (zs : List Int) : (srt zs).Perm zs := List.mergeSort_perm zs _
theorem srt_len (zs : List Int) : (srt zs).length = zs.length := (srt_perm zs).length_eq
theorem srt_le (zs : List Int) : (srt zs).Pairwise (· ≤ ·) := by
  have h := List.pairwise_mergeSort (le := fun (x y : Int) => decide (x ≤ y)) (fun a b c h1 h2 => by simp at *; omega) (fun a b => by simp; omega) zs
  exact h.imp (fun h => by simpa using h)
theorem cmp_up (d : List Int) (hd : d.Pairwise (· ≤ ·)) : ∀ m, m ≤ d.length → (Lib.compactUpTo d.toArray m).Pairwise (· < ·) ∧ (∀ x, x ∈ Lib.compactUpTo d.toArray m ↔ x ∈ d.take m) := by
  intro m
  induction m with
  | zero => intro _; simp [Lib.compactUpTo]
  | succ m ih =>
    intro hm
    obtain ⟨h1, h2⟩ := ih (by omega)
    have hg : d.toArray[m]! = d[m] := by simp [getElem!_pos, show m < d.length by omega]
    have hle : ∀ x, x ∈ d.take m → x ≤ d[m] := by
      intro x hx
      obtain ⟨i, hi, rfl⟩ := List.getElem_of_mem hx
      rw [List.getElem_take]
      exact List.pairwise_iff_getElem.1 hd i m _ _ (by simp at hi; omega)
    rw [Lib.compactUpTo_succ, hg, List.take_succ_eq_append_getElem (show m < d.length by omega)]
    by_cases hk : Lib.keeps d.toArray m = true
    · rw [if_pos hk]
      refine ⟨?_, fun x => by rw [List.mem_append, List.mem_append, h2]⟩
      rw [List.pairwise_append]
      refine ⟨h1, by simp, fun a ha b hb => ?_⟩
      simp only [List.mem_singleton] at hb
      subst hb
      have ha2 := (h2 a).1 ha
      simp only [Lib.keeps, decide_eq_true_eq] at hk
      rcases hk with rfl | hk
      · simp at ha2
      · by_cases h0 : m = 0
        · subst h0; simp at ha2
        have hm1 : m - 1 < d.length := by omega
        have hg1 : d.toArray[m - 1]! = d[m - 1] := by simp [getElem!_pos, hm1]
        rw [hg, hg1] at hk
        have h3 : d[m - 1] ≤ d[m] := List.pairwise_iff_getElem.1 hd (m - 1) m _ _ (by omega)
        have h4 : a ≤ d[m - 1] := by
          obtain ⟨i, hi, rfl⟩ := List.getElem_of_mem ha2
          rw [List.getElem_take]
          simp at hi
          by_cases he : i = m - 1
          · subst he; exact Int.le_refl _
          · exact List.pairwise_iff_getElem.1 hd i (m - 1) _ _ (by omega)
        omega
    · rw [if_neg hk]
      simp only [Lib.keeps, decide_eq_true_eq] at hk
      have h0 : m ≠ 0 := fun e => hk (.inl e)
      have hk2 : ¬ d.toArray[m]! ≠ d.toArray[m - 1]! := fun e => hk (.inr e)
      have hm1 : m - 1 < d.length := by omega
      have hg1 : d.toArray[m - 1]! = d[m - 1] := by simp [getElem!_pos, hm1]
      rw [hg, hg1] at hk2
      have he : d[m] = d[m - 1] := by omega
      refine ⟨by simpa using h1, fun x => ?_⟩
      simp only [List.append_nil, h2, List.mem_append, List.mem_singleton]
      refine ⟨fun h => .inl h, fun h => ?_⟩
      rcases h with h | h
      · exact h
      · rw [h, he]
        exact List.mem_take_iff_getElem.2 ⟨m - 1, by omega, rfl⟩
theorem ris_lt (zs : List Int) : (ris zs).Pairwise (· < ·) := (cmp_up (srt zs) (srt_le zs) _ (Nat.le_refl _)).1
theorem mem_ris (zs : List Int) (x : Int) : x ∈ ris zs ↔ x ∈ zs := by
  have h := (cmp_up (srt zs) (srt_le zs) _ (Nat.le_refl _)).2 x
  rw [List.take_length] at h
  exact h.trans (srt_perm zs).mem_iff
theorem ris_len (zs : List Int) : (ris zs).length ≤ zs.length := by
  have := Lib.compact_length_le (srt zs)
  rw [srt_len] at this
  exact this
theorem ris_le (zs : List Int) : (ris zs).Pairwise (· ≤ ·) := (ris_lt zs).imp (fun h => by omega)

/-- what rising leaves -/
def Risen (w : World) (zs : List Int) (e : Ending) (w' : World) : Prop :=
  ∃ v', e = .returned v' ∧ w'.ownsRow w.heap.size 3 1 v' (ris zs).length ((ris zs).map (Value.int .i64)) ∧ Below w.heap.size w w'

theorem risen_of {w w1 : World} {g cap n nn q : Nat} {os : Array Obj} {zs : List Int} (hown : w1.ownsRow w.heap.size 3 1 (.slice (some ⟨g, 0, none⟩) n cap) n (zs.map (Value.int .i64))) (hbel : Below w.heap.size w w1) (hbg : w.heap.size ≤ g) (hlen : zs.length = n) :
    Risen w zs (.returned (.slice (some ⟨g, 0, none⟩) (Lib.compact (srt zs)).length cap))
      (putRow (Value.int .i64) (Sort.ahead (grow (putRow (Value.int .i64) (Sort.ahead w1 nn) g 0 (srt zs).toArray) os) q) g 0 (Lib.compact (srt zs) ++ List.replicate ((srt zs).length - (Lib.compact (srt zs)).length) 0).toArray) := by
  have hl2 := srt_len zs
  have hle := Lib.compact_length_le (srt zs)
  subst hlen
  rcases hown.2 with ⟨h0, _⟩ | ⟨g', cap', cur, hv, hbase, hb, h1, h2, h3, h4⟩
  · cases h0
  cases hv
  have hs := ownsRow_sortedI (n := nn) (os := os) (ts := srt zs) hl2 hbase hb h1 h2 h3
  have hc := Lib.ownsRow_putRow (q := q) (k := (Lib.compact (srt zs)).length) (ys := Lib.compact (srt zs) ++ List.replicate ((srt zs).length - (Lib.compact (srt zs)).length) 0) hs (by simp; omega) (by omega)
  rw [List.take_left] at hc
  exact ⟨_, rfl, hc, Lib.below_putRow (hbel.grown (grownBy_sortedI _) hbel.size (fun j hj => by cases hj; exact hbase)) hbg⟩

set_option maxRecDepth 100000 in
set_option maxHeartbeats 1000000 in
theorem rising_tail (n : Nat) (arg : Value) (zs : List Int) (w : World) (hn : n ≤ 4611686018427387903)
    (hclone : Calls Tryd.prog 28 #[arg] w fun e w' => ∃ v', e = .returned v' ∧ w'.ownsRow w.heap.size 3 1 v' n (zs.map (Value.int .i64)) ∧ v' ≠ .slice none 0 0 ∧ Below w.heap.size w w') :
    Calls Tryd.prog 20 #[arg] w (Risen w zs) := by
  have HC := hide hclone
  clear hclone
  go_enter Tryd.func20, Tryd.ntmps20
  go_wp2_with fail
  refine HC.out.mono ?_
  rintro e w1 ⟨v1, rfl, hown, hnn, hbel⟩
  obtain ⟨g, cap, rfl, hbg, hgl, hncap, hcm, hlen, hH⟩ := Lib.holds_of_ownsRow hown hnn
  have hsort := Tryd.slices_Sort_int g 0 cap zs w1 hH hgl (by omega)
  rw [hlen] at hsort
  have HO := hide hown
  have HB := hide hbel
  have HH := hide hH
  have HS := hide hsort
  clear hown hbel hH hnn hsort HC
  go_wp2_with fail
  refine HS.out.mono ?_
  rintro e w2 ⟨rfl, nn, os, hw2⟩
  have hl2 : (srt zs).length = n := by rw [srt_len, hlen]
  have hH2 : Holds (Value.int .i64) w2 g 0 (srt zs).toArray := by
    rw [hw2]
    exact holds_grow (Value.int .i64) _ os g 0 _ (by simpa [putRow, mapBlock, Sort.ahead] using hgl) (holds_putRow (Value.int .i64) _ g 0 _ _ (holds_ahead (Value.int .i64) w1 nn g 0 _ HH.out) (by simp))
  have hcomp := Tryd.slices_Compact_int g 0 cap (srt zs) w2 hH2 (by omega) (by omega)
  rw [hl2] at hcomp
  have HC := hide hcomp
  have HW2 := hide hw2
  clear hH2 hcomp HS HH hw2
  go_wp2_with fail
  refine HC.out.mono ?_
  rintro e w3 ⟨rfl, q, hw3⟩
  have HW3 := hide hw3
  clear hw3
  go_wp2
  go_ret
  rw [HW3.out, HW2.out]
  have := risen_of (nn := nn) (q := q) (os := os) HO.out HB.out hbg hlen
  rw [hl2] at this
  exact this

theorem rising_any (zs : List Int) (a : Option Addr) (l c : Nat) (w : World) (hR : RowIn .i64 w a l c zs) (h47 : l * 8 ≤ 140737488355328) :
    Calls Tryd.prog 20 #[.slice a l c] w (Risen w zs) := by
  have hl := hR.len
  cases a with
  | none =>
    obtain ⟨rfl, rfl⟩ := hR.nil rfl
    obtain rfl : zs = [] := List.eq_nil_of_length_eq_zero hl
    go_enter Tryd.func20, Tryd.ntmps20
    go_wp2_with (first
      | (go_at_call 28; refine (Tryd.slices_Clone_int_nil _ _ _).mono ?_; rintro e w' ⟨rfl, rfl⟩)
      | (go_at_call 29; refine (Tryd.slices_Sort_int_none _ _ _).mono ?_; rintro e w' ⟨rfl, rfl⟩)
      | (go_at_call 30; refine (Tryd.slices_Compact_int_empty _ _ _).mono ?_; rintro e w' ⟨rfl, rfl⟩))
    go_ret
    exact ⟨_, rfl, by simpa [ris, srt, Lib.compact, Lib.compactUpTo] using World.ownsRow_nil _ _ _ _, Below.refl _ _⟩
  | some x =>
    by_cases h0 : l = 0
    · subst h0
      obtain rfl : zs = [] := List.eq_nil_of_length_eq_zero hl
      exact rising_tail 0 _ [] w (by omega) (Tryd.slices_Clone_int_zero x c w)
    · obtain ⟨b, off, e, _, _⟩ := hR.cell 0 (by omega)
      cases e
      refine rising_tail l _ zs w (by omega) ?_
      have h := Tryd.slices_Clone_int b off l c zs w (by omega) h47 (fun j hj => by
        obtain ⟨b', off', e, _, hc⟩ := hR.cell j (by omega)
        cases e
        exact hc)
      rw [List.take_of_length_le (by omega)] at h
      exact h
end Go.Proofs.YtbmajbbgfolmiaaDoor

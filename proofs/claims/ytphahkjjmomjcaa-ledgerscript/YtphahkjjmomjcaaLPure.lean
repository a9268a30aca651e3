/- What a ledger is, as plain values: what is justified, a state, epochs that end, votes that count. -/
import Derived.Test.YtphahkjjmomjcaaLRep

import Derived.Test.YtphahkjjmomjcaaQRead

import Derived.Test.YtphahkjjmomjcaaVRight

namespace Go.Proofs.Ytphahkjjmomjcaa

open Go.ChangeShapes Go.WideShapes Go.ChangeAt Go.RowKit

set_option linter.unusedVariables false

structure JS where
  b0 : Bool
  b1 : Bool
  b2 : Bool
  b3 : Bool
  pe : Int
  pr : Int
  ce : Int
  cr : Int
  fe : Int
  fr : Int
abbrev JS.cells (j : JS) : Array Value := scells j.b0 j.b1 j.b2 j.b3 j.pe j.pr j.ce j.cr j.fe j.fr
def JS.next (j : JS) (e : Int) (before now : Bool) (e1 r1 e2 r2 : Int) : JS :=
  ⟨now, bit1 j.b0 before, j.b1, j.b2, j.ce, j.cr, curI before now j.ce e1 e2, curI before now j.cr r1 r2, finI now (bit1 j.b0 before) j.b1 j.b2 j.pe j.ce e j.pe j.ce j.fe, finI now (bit1 j.b0 before) j.b1 j.b2 j.pe j.ce e j.pr j.cr j.fr⟩
def JS.first (r : Int) : JS := ⟨false, false, false, false, 0, r, 0, r, 0, r⟩
structure LS where
  j : JS
  e : Int
  bf : List Bool
  nw : List Bool

/-- whom a list has, of the first k -/
def idxK (vs : List Bool) (k : Nat) : List Int := ((List.range k).filter fun i => vs.getD i false).map fun (i : Nat) => (i : Int)
def idx (vs : List Bool) : List Int := idxK vs vs.length
theorem idxK_zero (vs : List Bool) : idxK vs 0 = [] := rfl
theorem idxK_in (vs : List Bool) (k : Nat) (h : vs.getD k false = true) : idxK vs (k + 1) = idxK vs k ++ [(k : Int)] := by
  unfold idxK
  rw [List.range_succ, List.filter_append, List.map_append]
  have : List.filter (fun i => vs.getD i false) [k] = [k] := List.filter_cons_of_pos h
  rw [this]
  rfl
theorem idxK_out (vs : List Bool) (k : Nat) (h : vs.getD k false = false) : idxK vs (k + 1) = idxK vs k := by
  unfold idxK
  rw [List.range_succ, List.filter_append, List.map_append]
  have : List.filter (fun i => vs.getD i false) [k] = [] := List.filter_cons_of_neg (by rw [h]; simp)
  rw [this]
  simp
theorem idxK_len (vs : List Bool) (k : Nat) : (idxK vs k).length ≤ k := by
  unfold idxK
  rw [List.length_map]
  have := List.length_filter_le (fun i => vs.getD i false) (List.range k)
  simpa using this
theorem idxK_none (n k : Nat) : idxK (List.replicate n false) k = [] := by
  unfold idxK
  rw [List.map_eq_nil_iff, List.filter_eq_nil_iff]
  intro i _
  rw [List.getD_eq_getElem?_getD, List.getElem?_replicate]
  split <;> simp

/-- have those who voted two thirds? -/
def en (bs : List Int) (vs : List Bool) : Bool := enB (sums bs (idx vs)) (tot bs)
theorem sums_nil (bs : List Int) : sums bs [] = 0 := rfl
theorem en_none (bs : List Int) (n : Nat) : en bs (List.replicate n false) = false := by
  unfold en idx
  rw [idxK_none, sums_nil, enB]
  exact decide_eq_false (by omega)
theorem sums_b (bs : List Int) (hb : ∀ z ∈ bs, 0 ≤ z ∧ z ≤ 18446744073709551615) (who : List Int) : 0 ≤ sums bs who ∧ sums bs who ≤ 18446744073709551615 := by
  unfold sums
  have h : ∀ (l : List Int) (x : Int), 0 ≤ x ∧ x ≤ 18446744073709551615 → 0 ≤ l.foldl (fun (a v : Int) => if 0 ≤ v ∧ v < bs.length then (a + bs.getD v.toNat 0) % 18446744073709551616 else a) x ∧ l.foldl (fun (a v : Int) => if 0 ≤ v ∧ v < bs.length then (a + bs.getD v.toNat 0) % 18446744073709551616 else a) x ≤ 18446744073709551615 := by
    intro l
    induction l with
    | nil => exact fun x h => h
    | cons v l ih =>
      intro x hx
      rw [List.foldl_cons]
      apply ih
      split
      · omega
      · exact hx
  exact h who 0 (by omega)

/-- what is justified at an epoch's end -/
def endJ (f : Int → Int) (s : Int) (j : JS) (e : Int) (before now : Bool) : JS :=
  if e < 2 then j else j.next e before now (lo0 (wrap64 (e - 1))) (f (stI (wrap64 (e - 1)) s)) (lo0 e) (f (stI e s))
def pullJ (bs : List Int) (s : Int) (f : Int → Int) (S : LS) : JS := endJ f s S.j S.e (en bs S.bf) (en bs S.nw)
/-- an epoch ends -/
def stepS (bs : List Int) (s : Int) (f : Int → Int) (S : LS) (e : Int) : LS := ⟨pullJ bs s f S, e + 1, S.nw, List.replicate bs.length false⟩
def advK (bs : List Int) (s : Int) (f : Int → Int) (S : LS) (a : Int) (k : Nat) : LS := (run a k).foldl (stepS bs s f) S
def advS (bs : List Int) (s : Int) (f : Int → Int) (S : LS) (slot : Int) : LS := advK bs s f S (epo (wrap64 (S.e * s)) s) (ends (wrap64 (S.e * s)) slot s).toNat
theorem advK_succ (bs : List Int) (s : Int) (f : Int → Int) (S : LS) (a : Int) (k : Nat) : advK bs s f S a (k + 1) = stepS bs s f (advK bs s f S a k) (a + k) := by
  unfold advK
  rw [run_succ, List.foldl_append]
  rfl
/-- who votes is so from now on -/
def mark (vs : List Bool) (who : List Int) : List Bool := who.foldl (fun l v => l.set v.toNat true) vs
theorem mark_len (vs : List Bool) (who : List Int) : (mark vs who).length = vs.length := by
  unfold mark
  induction who generalizing vs with
  | nil => rfl
  | cons v who ih => rw [List.foldl_cons, ih]; simp
theorem mark_take (vs : List Bool) (who : List Int) (k : Nat) (h : k < who.length) : mark vs (who.take (k + 1)) = (mark vs (who.take k)).set (who.getD k 0).toNat true := by
  unfold mark
  rw [List.take_succ_eq_append_getElem h, List.foldl_append, List.getD_eq_getElem?_getD, List.getElem?_eq_getElem h]
  rfl
structure VV where
  s : Int
  h : Int
  se : Int
  sr : Int
  te : Int
  tr : Int
  who : List Int
def VV.right (n : Nat) (s : Int) (v : VV) : Bool := whoB v.who n && timesB v.s v.se v.te s
def isNow (S : LS) (v : VV) : Bool := decide (v.te = S.e) && decide (v.se = S.j.ce ∧ v.sr = S.j.cr)
def isBefore (S : LS) (v : VV) : Bool := decide (v.te = wrap64 (S.e - 1)) && decide (v.se = S.j.pe ∧ v.sr = S.j.pr)
def onPoint (s : Int) (f : Int → Int) (v : VV) : Bool := decide (v.te = lo0 v.te ∧ v.tr = f (stI v.te s))
/-- does a vote count, and what is the state behind it -/
def cntB (n : Nat) (s : Int) (f : Int → Int) (S : LS) (v : VV) : Bool := v.right n s && onPoint s f v && (isNow S v || isBefore S v)
def cntS (n : Nat) (s : Int) (f : Int → Int) (S : LS) (v : VV) : LS :=
  if cntB n s f S v then (if isNow S v then ⟨S.j, S.e, S.bf, mark S.nw v.who⟩ else ⟨S.j, S.e, mark S.bf v.who, S.nw⟩) else S
end Go.Proofs.Ytphahkjjmomjcaa

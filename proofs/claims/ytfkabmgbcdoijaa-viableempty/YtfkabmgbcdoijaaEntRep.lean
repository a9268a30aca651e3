/- Latest's votes: entries in memory, plainly. -/
import Derived.Test.YtfkabmgbcdoijaaOctMath

import Derived.Test.YtfkabmgbcdoijaaObjs

import Derived.Test.YtfkabmgbcdoijaaHand

import Derived.WalkKit

import Derived.ProofKit

import Derived.Deep.OwnRows

import Derived.Laws.OwnMore

namespace Go.Proofs.Ytfkabmgbcdoijaa

open Go.ChangeShapes Go.WideShapes Go.ChangeAt Go.RowKit

set_option linter.unusedVariables false

/-- an entry -/
structure Ent where
  h : Bool
  e : Int
  r : Int
  b : Bool
abbrev ecells (h : Bool) (e r : Int) (b : Bool) : List Value := [.bool h, .int .i64 e, .int .u64 r, .bool b]
abbrev Ent.cells (x : Ent) : List Value := ecells x.h x.e x.r x.b
def Ent.zero : Ent := ⟨false, 0, 0, false⟩
def entC : List Ent → List Value
  | [] => []
  | x :: xs => x.cells ++ entC xs
/-- entry k, of those there are -/
def entK (es : List Ent) (k : Nat) : Ent := es.getD k Ent.zero
theorem entC_len : ∀ es : List Ent, (entC es).length = es.length * 4
  | [] => rfl
  | x :: xs => by
    have := entC_len xs
    simp [entC, this]
    omega
theorem entC_get : ∀ (es : List Ent) (k j : Nat), k < es.length → j < 4 → (entC es)[k * 4 + j]? = (entK es k).cells[j]?
  | [], k, j, h, _ => by simp at h
  | x :: xs, 0, j, _, hj => by
    rw [entC, Nat.zero_mul, Nat.zero_add, List.getElem?_append_left (by simpa using hj)]
    rfl
  | x :: xs, k + 1, j, h, hj => by
    have ih := entC_get xs k j (by simpa using h) hj
    have hl : x.cells.length = 4 := rfl
    rw [entC, List.getElem?_append_right (by rw [hl]; omega), hl, show (k + 1) * 4 + j - 4 = k * 4 + j by omega, ih]
    simp [entK]
/-- four cells that are laid from k * 4 on are entry k anew -/
theorem entC_set (es : List Ent) (k : Nat) (hk : k < es.length) (x : Ent) (C : List Value) (hl : C.length = es.length * 4)
    (hin : ∀ j, j < 4 → C[k * 4 + j]? = x.cells[j]?) (hout : ∀ i, i < k * 4 ∨ k * 4 + 4 ≤ i → C[i]? = (entC es)[i]?) : C = entC (es.set k x) := by
  apply List.ext_getElem?
  intro i
  by_cases hi : i < es.length * 4
  · have hm : i / 4 < (es.set k x).length := by rw [List.length_set]; omega
    have hd : i = i / 4 * 4 + i % 4 := by omega
    rw [hd, entC_get _ _ _ hm (by omega)]
    by_cases hik : i / 4 = k
    · rw [hik, hin _ (by omega)]
      congr 2
      simp [entK, List.getD_eq_getElem?_getD, List.getElem?_set_self hk]
    · rw [← hd, hout i (by omega)]
      conv => lhs; rw [hd]
      rw [entC_get es _ _ (by omega) (by omega)]
      congr 2
      simp [entK, List.getD_eq_getElem?_getD, List.getElem?_set_ne (fun e => hik e.symm)]
  · rw [List.getElem?_eq_none (by omega), List.getElem?_eq_none (by rw [entC_len, List.length_set]; omega)]
theorem set4 (es : List Ent) (k j : Nat) (hk : k < es.length) (hj : j < 4) (v : Value) (x : Ent) (hx : x.cells = (entK es k).cells.set j v) : (entC es).toArray.setIfInBounds (k * 4 + j) v = (entC (es.set k x)).toArray := by
  have hl := entC_len es
  have hr : k * 4 + j < (entC es).length := by omega
  apply congrArg List.toArray (a₁ := (entC es).set (k * 4 + j) v) ?_ |> Eq.trans (by simp)
  refine entC_set es k hk x _ (by simp [hl]) (fun i hi => ?_) (fun i hi => ?_)
  · rw [hx]
    by_cases hij : i = j
    · subst hij
      rw [List.getElem?_set_self hr, List.getElem?_set_self (by simpa using hj)]
    · rw [List.getElem?_set_ne (by omega), List.getElem?_set_ne (fun e => hij e.symm), entC_get es k i hk hi]
  · rw [List.getElem?_set_ne (by omega)]
/-- a cell of a variable is written -/
theorem OAt.cellSet {w : World} {g : Nat} {C : Array Value} {t : TypeId} {m : Nat × Nat} (h : OAt w g (.cells C t m)) (o : Nat) (v : Value) : OAt (w.setCell ⟨g, o, none⟩ v) g (.cells (C.setIfInBounds o v) t m) := OAt.of (set_obj h.at_ o v)
theorem OAt.thaw {w : World} {g : Nat} {C : Array Value} {t : TypeId} (h : OAt w g (.cells C t (0, 0))) (i : Nat) : w.frozen? ⟨g, i, none⟩ = false := by unfold World.frozen?; rw [h.at_]; simp
/-- 'make' of a row of structs, the world told -/
theorem wpList_make_cells {P : Program} (w : World) {ops : Array Oper} {rest : List Oper} {o : Oper} {a : Act} {Q : Exit → Act → World → Prop}
    (hg : o.guard = none) (l c : Operand) (t : TypeId) (hop : o.op = Op.makeSlice t l c)
    (e : TypeId) (i : TypeInfo) (z : Value) (size : Nat) (ht : P.underlying t = some (.slice e)) (hi : P.info? e = some i) (hz : i.zero = some z) (hsize : i.size = size)
    (kl kc : IntKind) (L : Int) (n : Nat) (hl : a.eval l = .int kl L) (hc : a.eval c = .int kc L) (hL : L = (n : Int)) (hbytes : i.bytes * n ≤ 281474976710656) (h63 : n ≤ maxLen)
    (hK : wpList P ops Q rest (a.put o.dst (.slice (some ⟨w.heap.size, 0, none⟩) n n)) (w.alloc (.cells (madeCells z.cells (n * size)) e))) :
    wpList P ops Q (o :: rest) a w := by
  subst hL hsize
  refine wpList_plain hg fun K hK' => ?_
  unfold maxLen at h63
  have hb' : (i.bytes : Int) * (n : Int) ≤ 281474976710656 := by
    have h : ((i.bytes * n : Nat) : Int) ≤ 281474976710656 := by omega
    rwa [Int.natCast_mul] at h
  have hrun := run_make (P := P) w t e i z ht hi hz kl kc n n (by omega) (Int.le_refl _) hb' (by omega)
  simp only [Int.toNat_natCast] at hrun
  unfold Oper.wp
  simp [execOp, hop, hl, hc, hrun, Result.andThen]
  exact hK' _ _ hK
theorem entK_set (es : List Ent) (k : Nat) (x : Ent) (i : Nat) (hk : k < es.length) : entK (es.set k x) i = if i = k then x else entK es i := by
  by_cases h : i = k
  · subst h
    rw [if_pos rfl]
    simp [entK, List.getD_eq_getElem?_getD, List.getElem?_set_self hk]
  · rw [if_neg h]
    simp [entK, List.getD_eq_getElem?_getD, List.getElem?_set_ne (fun e => h e.symm)]
theorem set_self (es : List Ent) (k : Nat) : es.set k (entK es k) = es := by
  apply List.ext_getElem?
  intro i
  by_cases h : k = i
  · subst h
    by_cases hk : k < es.length
    · rw [List.getElem?_set_self hk]
      simp [entK, List.getD_eq_getElem?_getD, List.getElem?_eq_getElem hk]
    · rw [List.getElem?_eq_none (by simp; omega), List.getElem?_eq_none (by omega)]
  · rw [List.getElem?_set_ne h]
theorem zero_cells (n : Nat) : madeCells #[.bool false, .int .i64 0, .int .u64 0, .bool false] (n * 4) = (entC (List.replicate n Ent.zero)).toArray := by
  have hl := entC_len (List.replicate n Ent.zero)
  rw [List.length_replicate] at hl
  apply Array.ext_getElem?
  intro i
  have ht : (entC (List.replicate n Ent.zero)).toArray[i]? = (entC (List.replicate n Ent.zero))[i]? := by simp
  by_cases hi : i < n * 4
  · have hd : i = i / 4 * 4 + i % 4 := by omega
    have hk : i / 4 < (List.replicate n Ent.zero).length := by rw [List.length_replicate]; omega
    have e : entK (List.replicate n Ent.zero) (i / 4) = Ent.zero := by
      unfold entK
      rw [List.getD_eq_getElem?_getD, List.getElem?_replicate]
      split <;> rfl
    have h4 : (entC (List.replicate n Ent.zero))[i]? = Ent.zero.cells[i % 4]? := by
      conv => lhs; rw [hd]
      rw [entC_get _ (i / 4) (i % 4) hk (by omega), e]
    have h5 : (madeCells #[.bool false, .int .i64 0, .int .u64 0, .bool false] (n * 4))[i]? = Ent.zero.cells[i % 4]? := by
      simp [madeCells, hi]
      have : i % 4 < 4 := Nat.mod_lt _ (by decide)
      generalize i % 4 = m at this
      match m, this with
      | 0, _ => rfl
      | 1, _ => rfl
      | 2, _ => rfl
      | 3, _ => rfl
    rw [ht, h4, h5]
  · rw [ht, List.getElem?_eq_none (by omega)]
    exact Array.getElem?_eq_none (by rw [size_madeCells]; omega)
/-- may a number be a validator's that is not banned? -/
def isB (n : Nat) (who : Int) : Bool := decide (0 ≤ who ∧ who < (n : Int))
def ctB (es : List Ent) (who : Int) : Bool := isB es.length who && !(entK es who.toNat).b
def takeB (es : List Ent) (who ep : Int) : Bool := ctB es who && !((entK es who.toNat).h && decide (ep ≤ (entK es who.toNat).e))
def takeE (es : List Ent) (who ep r : Int) : List Ent := bif takeB es who ep then es.set who.toNat ⟨true, ep, r, false⟩ else es
def banE (es : List Ent) (who : Int) : List Ent := bif ctB es who then es.set who.toNat ⟨(entK es who.toNat).h, (entK es who.toNat).e, (entK es who.toNat).r, true⟩ else es
def getB' (es : List Ent) (who : Int) : Bool := ctB es who && (entK es who.toNat).h
def getR (es : List Ent) (who : Int) : Int := bif getB' es who then (entK es who.toNat).r else 0
theorem takeE_len (es : List Ent) (who ep r : Int) : (takeE es who ep r).length = es.length := by unfold takeE; cases takeB es who ep <;> simp
theorem banE_len (es : List Ent) (who : Int) : (banE es who).length = es.length := by unfold banE; cases ctB es who <;> simp
end Go.Proofs.Ytfkabmgbcdoijaa

/- Contract of weight's byBlock: the map of sums. -/
import Derived.Test.YtfkabmgbcdoijaaGMath

import Derived.Test.YtfkabmgbcdoijaaRegG

import Derived.Test.YtfkabmgbcdoijaaTRep

namespace Go.Proofs.Ytfkabmgbcdoijaa

open Go.ChangeShapes Go.WideShapes Go.ChangeAt Go.RowKit Go.Maps

set_option linter.unusedVariables false

/-- block b is a map of at most n entries, which has f -/
def MapU (w : World) (b n : Nat) (f : Int → Option Int) : Prop :=
  ∃ D : DataW Unit, w.ownsMap Try.prog 29 (plainElem Try.prog 29) b n D ∧ ∀ r : Int, Maps.has D (.int .u64 r) = (f r).isSome ∧ D.atKey (.int .u64 r) (.lit (.int .u64 0)) = .lit (.int .u64 ((f r).getD 0))
theorem MapU.lt {w : World} {b n : Nat} {f : Int → Option Int} (h : MapU w b n f) : b < w.heap.size := by
  obtain ⟨D, h, _⟩ := h
  exact h.lt
theorem MapU.of {w w' : World} {b n : Nat} {f : Int → Option Int} (h : MapU w b n f) (e : w'.heap[b]? = w.heap[b]?) : MapU w' b n f := by
  obtain ⟨D, ⟨es, clock, hb, F, hs, hD⟩, hf⟩ := h
  exact ⟨D, ⟨es, clock, e.trans hb, F, hs, hD⟩, hf⟩
theorem MapU.below {w w' : World} {b n : Nat} {f : Int → Option Int} (h : MapU w b n f) (hb : Below w.heap.size w w') : MapU w' b n f := h.of (hb.block b h.lt)
theorem MapU.congr {w : World} {b n : Nat} {f g : Int → Option Int} (h : MapU w b n f) (e : ∀ r, f r = g r) : MapU w b n g := by
  obtain ⟨D, hD, hf⟩ := h
  exact ⟨D, hD, fun r => by rw [← e r]; exact hf r⟩
theorem MapU.mono {w : World} {b n m : Nat} {f : Int → Option Int} (h : MapU w b n f) (e : n ≤ m) : MapU w b m f := by
  obtain ⟨D, ⟨es, clock, hb, F, hs, hD⟩, hf⟩ := h
  exact ⟨D, ⟨es, clock, hb, F, Nat.le_trans hs e, hD⟩, hf⟩
theorem MapU.new (w : World) : MapU (w.alloc (.map #[] 0)) w.heap.size 0 (fun _ => none) :=
  ⟨.map [], World.ownsMap_made _ _ _ _, fun r => ⟨rfl, rfl⟩⟩
/-- what byBlock hands back -/
def Bys (w : World) (es : List Ent) (bal : List Int) (e : Ending) (w' : World) : Prop := ∃ b, e = .returned (.map (some b)) ∧ MapU w' b es.length (fK es bal es.length) ∧ Below w.heap.size w w'
theorem sums_one (bal : List Int) (k : Int) (hu : ∀ z ∈ bal, 0 ≤ z ∧ z ≤ 18446744073709551615) : sums bal [k] = one bal k ∧ 0 ≤ one bal k ∧ one bal k ≤ 18446744073709551615 := by
  unfold sums one
  simp only [List.foldl_cons, List.foldl_nil]
  by_cases h : 0 ≤ k ∧ k < (bal.length : Int)
  · rw [if_pos h, if_pos h]
    have hm : bal.getD k.toNat 0 ∈ bal := by
      rw [List.getD_eq_getElem?_getD, List.getElem?_eq_getElem (show k.toNat < bal.length by omega)]; exact List.getElem_mem _
    have := hu _ hm
    omega
  · rw [if_neg h, if_neg h]
    omega

theorem row_one {w : World} {g : Nat} {z : Int} {t : TypeId} (h : OAt w g (.cells #[.int .i64 z] t)) : RowIn .i64 w (some ⟨g, 0, none⟩) 1 1 [z] :=
  ⟨rfl, fun h => (by cases h), fun i hi => by
    have : i = 0 := by omega
    subst this
    exact ⟨g, 0, rfl, h.lt, h.cell 0⟩, by simp [maxLen]⟩
end Go.Proofs.Ytfkabmgbcdoijaa

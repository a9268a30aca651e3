/- A map of bools keyed by numbers, which the call makes: what is stored as true is found. -/
import Derived.Test.YtcajinccnnmlgaaObjs

import Derived.Maps.Own

import Derived.Maps.Views

namespace Go.Proofs.Ytcajinccnnmlgaa

open Go.ChangeShapes Go.WideShapes Go.ChangeAt Go.RowKit Go.Maps

set_option linter.unusedVariables false

theorem keyI : Keyed Try.prog 3 := int_keyed Try.underlying3
/-- the number is there -/
def Tr (D : DataW Unit) (y : Int) : Prop := D.atKey (.int .i64 y) (.lit (.bool false)) = .lit (.bool true)
/-- block b is such a map, of at most n entries -/
def MapT (w : World) (b n : Nat) (D : DataW Unit) : Prop := w.ownsMap Try.prog 3 (plainElem Try.prog 4) b n D
theorem MapT.lt {w : World} {b n : Nat} {D : DataW Unit} (h : MapT w b n D) : b < w.heap.size := World.ownsMap.lt h
theorem MapT.of {w w' : World} {b n : Nat} {D : DataW Unit} (h : MapT w b n D) (e : w'.heap[b]? = w.heap[b]?) : MapT w' b n D := by
  obtain ⟨es, clock, hb, F, hs, hD⟩ := h
  exact ⟨es, clock, e.trans hb, F, hs, hD⟩
theorem MapT.below {w w' : World} {b n : Nat} {D : DataW Unit} (h : MapT w b n D) (hb : Below w.heap.size w w') : MapT w' b n D := h.of (hb.block b h.lt)
theorem MapT.apart {w w' : World} {b n r : Nat} {D : DataW Unit} (h : MapT w b n D) (k : Apart r w w') (hr : b ≠ r) : MapT w' b n D := h.of (k.block b h.lt hr)
theorem MapT.alloc {w : World} {b n : Nat} {D : DataW Unit} (h : MapT w b n D) (o : Obj) : MapT (w.alloc o) b n D := h.below (below_alloc _ _)
theorem MapT.drew {w : World} {b n : Nat} {D : DataW Unit} (h : MapT w b n D) : MapT w.drew b n D := h
theorem MapT.new (w : World) : MapT (w.alloc (.map #[] 0)) w.heap.size 0 (.map []) := World.ownsMap_made _ _ _ _
theorem MapT.isMap {w : World} {b n : Nat} {D : DataW Unit} (h : MapT w b n D) : IsMap D := by
  obtain ⟨es, clock, hb, F, hs, hD⟩ := h
  exact ⟨_, hD⟩
theorem Apart.grown {w w' : World} {b : Nat} (h : w.grownBy w' (some b)) : Apart b w w' :=
  ⟨h.os, h.tape, h.output, by rw [hole_size, hole_size]; exact h.size, fun k hk => by
    by_cases e : k = b
    · subst e
      have h1 : k < w'.heap.size := Nat.lt_of_lt_of_le hk h.size
      simp [hole, hk, h1]
    · rw [hole_get _ _ _ e, hole_get _ _ _ e]; exact h.block k hk (by simp [e])⟩
/-- a number is stored as true -/
theorem MapT.put {w : World} {b n : Nat} {D : DataW Unit} (h : MapT w b n D) (y : Int) (hy : -9223372036854775808 ≤ y ∧ y ≤ 9223372036854775807) (hn : n < maxLen) :
    ∃ w', (Instr.mapUpdate 32 (.map (some b)) (.int .i64 y) (.bool true)).run Try.prog w = .ok () w' ∧ MapT w' b (n + 1) (D.put (.int .i64 y) (.lit (.bool true))) ∧ Apart b w w' := by
  obtain ⟨w', h1, h2, h3⟩ := World.ownsMap.update h keyI Try.underlying32 hn (keyOf_int_mk Try.underlying3 (WalkArith.wf_i64 hy)) (plainElem_bool Try.underlying4 true)
  exact ⟨w', h1, h2, .grown h3⟩
theorem plainElem_bool_inv {P : Program} {e : TypeId} (he : P.underlying e = some .bool) {v : Value} {z : DataW Unit × List MemPlace} (h : plainElem P e v = some z) : ∃ a, v = .bool a ∧ z = (.lit (.bool a), []) := by
  unfold plainElem at h
  rw [he] at h
  cases v <;> simp at h
  subst h
  exact ⟨_, rfl, rfl⟩
/-- what was stored is found -/
theorem MapT.look {w : World} {b n : Nat} {D : DataW Unit} (h : MapT w b n D) (y : Int) (hy : -9223372036854775808 ≤ y ∧ y ≤ 9223372036854775807) (ht : Tr D y) :
    (Instr.lookup 32 (.map (some b)) (.int .i64 y) false).run Try.prog w = .ok (.bool true) w := by
  obtain ⟨v, ps, hrun, hv⟩ := World.ownsMap.lookup h keyI Try.underlying32 (z := .bool false) (by kernel_rfl) (plainElem_bool Try.underlying4 false) (keyOf_int_mk Try.underlying3 (WalkArith.wf_i64 hy))
  rw [show D.atKey _ _ = _ from ht] at hv
  obtain ⟨a, rfl, hz⟩ := plainElem_bool_inv Try.underlying4 hv
  simp at hz
  rw [hrun]
  rw [hz.1]
theorem Tr.same {D : DataW Unit} (h : IsMap D) (y : Int) : Tr (D.put (.int .i64 y) (.lit (.bool true))) y := atKey_put_same h (by simp [WideAt.IsKeyLit]) _ _
theorem Tr.put {D : DataW Unit} {y : Int} (ht : Tr D y) (h : IsMap D) (x : Int) : Tr (D.put (.int .i64 x) (.lit (.bool true))) y := by
  by_cases e : y = x
  · subst e; exact Tr.same h y
  · exact (atKey_put_other (by simp [e]) _ _).trans ht
end Go.Proofs.Ytcajinccnnmlgaa

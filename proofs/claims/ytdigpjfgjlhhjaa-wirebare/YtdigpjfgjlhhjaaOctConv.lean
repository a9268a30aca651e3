/- 'string(b)' of a row of bytes. -/
import Derived.Test.YtdigpjfgjlhhjaaOctGet

import Derived.Laws.BytesArg

namespace Go.Proofs.Ytdigpjfgjlhhjaa

open Go.ChangeShapes Go.WideShapes Go.ChangeAt Go.RowKit

set_option linter.unusedVariables false

/-- 'string(b)' of no bytes, whatever the address -/
theorem conv_none (w : World) (ao : Option Addr) (c : Nat) : (convert 40 9 (.slice ao 0 c)).run Try.prog w = .ok (.string ByteArray.empty) w := by
  rw [run_convert_bytes_string w 40 9 5 _ 0 c Try.underlying40 Try.underlying5 Try.underlying9]
  cases ao <;> simp [Conv.bytesToString, loadCells]
  all_goals rfl
/-- 'string(b)' of a row of bytes, nil or not -/
theorem conv_row {w : World} {ao : Option Addr} {n c : Nat} {zs : List Int} (h : RowIn .u8 w ao n c zs) :
    (convert 40 9 (.slice ao n c)).run Try.prog w = .ok (.string (strOfNums zs)) w := by
  by_cases h0 : n = 0
  · subst h0
    have : zs = [] := List.eq_nil_of_length_eq_zero h.len
    subst this
    exact conv_none w ao c
  · obtain ⟨b, off, rfl, _, _⟩ := h.cell 0 (by omega)
    refine run_convert_bytes_arg (P := Try.prog) w 40 5 Try.underlying40 Try.underlying5 b off n c zs h.len ?_ 9 Try.underlying9
    intro i hi
    obtain ⟨b', off', e, _, hc⟩ := h.cell i hi
    cases e
    exact hc
theorem RowIn.drewN {k : IntKind} {w : World} {ao : Option Addr} {n c : Nat} {zs : List Int} (h : RowIn k w ao n c zs) (q : Nat) : RowIn k (w.drewN q) ao n c zs := h.below (below_drewN (Below.refl _ _) q)
/-- the first ones of a row -/
theorem RowIn.take {k : IntKind} {w : World} {ao : Option Addr} {n c : Nat} {zs : List Int} (h : RowIn k w ao n c zs) (m : Nat) (hm : m ≤ n) (ha : ao ≠ none) : RowIn k w ao m c (zs.take m) :=
  ⟨by have := h.len; simp; omega, fun e => absurd e ha, fun i hi => by
    obtain ⟨b, off, e, hlt, hc⟩ := h.cell i (by omega)
    exact ⟨b, off, e, hlt, by rw [hc]; simp [List.getD_eq_getElem?_getD, hi]⟩, by have := h.cap; omega⟩
end Go.Proofs.Ytdigpjfgjlhhjaa

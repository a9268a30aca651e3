/- The document's examples of layer 1 ('awake'): they hold, and nothing that was there turns. -/
import Derived.Test.YtkcjeholgeneoaaOctPut
import Derived.Lib.SlBytesConst
import Derived.Laws.BytesArg
namespace Go.Proofs.Ytkcjeholgeneoaa
open Go.ChangeShapes Go.WideShapes Go.ChangeAt Go.RowKit
set_option linter.unusedVariables false

/-- '[]byte("..")' of a constant: the row just laid gets its mark -/
theorem conv_const (w : World) (g : Nat) (C : Array Value) (n c : Nat) (hg : g = w.heap.size) :
    (convert 22 22 (.slice (some ⟨g, 0, none⟩) n c)).run Try.prog (w.alloc (.cells C 5)) = .ok (.slice (some ⟨g, 0, none⟩) n c) (w.alloc (.cells C 5 (C.size, C.size + 1))) := by
  subst hg
  exact Lib.run_convert_bytes_const (P := Try.prog) w 22 5 C n c Try.underlying22 Try.underlying5
theorem conv_const_drew (w : World) (q g : Nat) (C : Array Value) (n c : Nat) (hg : g = w.heap.size) :
    (convert 22 22 (.slice (some ⟨g, 0, none⟩) n c)).run Try.prog ((w.alloc (.cells C 5)).drewN q) = .ok (.slice (some ⟨g, 0, none⟩) n c) ((w.alloc (.cells C 5 (C.size, C.size + 1))).drewN q) := by
  subst hg
  exact Lib.run_convert_bytes_const (P := Try.prog) (w.drewN q) 22 5 C n c Try.underlying22 Try.underlying5

/-- 'string(b)' of no bytes, whatever the address -/
theorem conv_none (w : World) (ao : Option Addr) (c : Nat) : (convert 22 9 (.slice ao 0 c)).run Try.prog w = .ok (.string ByteArray.empty) w := by
  rw [run_convert_bytes_string w 22 9 5 _ 0 c Try.underlying22 Try.underlying5 Try.underlying9]
  cases ao <;> simp [Conv.bytesToString, loadCells]
  all_goals rfl
/-- 'string(b)' of a row of bytes, nil or not -/
theorem conv_row {w : World} {ao : Option Addr} {n c : Nat} {zs : List Int} (h : RowIn .u8 w ao n c zs) :
    (convert 22 9 (.slice ao n c)).run Try.prog w = .ok (.string (strOfNums zs)) w := by
  by_cases h0 : n = 0
  · subst h0
    have : zs = [] := List.eq_nil_of_length_eq_zero h.len
    subst this
    exact conv_none w ao c
  · obtain ⟨b, off, rfl, _, _⟩ := h.cell 0 (by omega)
    refine run_convert_bytes_arg (P := Try.prog) w 22 5 Try.underlying22 Try.underlying5 b off n c zs h.len ?_ 9 Try.underlying9
    intro i hi
    obtain ⟨b', off', e, _, hc⟩ := h.cell i hi
    cases e
    exact hc
theorem RowIn.drewN {k : IntKind} {w : World} {ao : Option Addr} {n c : Nat} {zs : List Int} (h : RowIn k w ao n c zs) (q : Nat) : RowIn k (w.drewN q) ao n c zs := h.below (below_drewN (Below.refl _ _) q)
/-- the first ones of a row -/
theorem RowIn.take {k : IntKind} {w : World} {ao : Option Addr} {n c : Nat} {zs : List Int} (h : RowIn k w ao n c zs) (m : Nat) (hm : m ≤ n) (ha : ao ≠ none) : RowIn k w ao m c (zs.take m) :=
  ⟨by have := h.len; simp; omega, fun e => absurd e ha, fun i hi => by
    obtain ⟨b, off, e, hlt, hc⟩ := h.cell i (by omega)
    exact ⟨b, off, e, hlt, by rw [hc]; simp [List.getD_eq_getElem?_getD, hi]⟩, by have := h.cap; omega⟩

theorem str8 : strOfNums [0, 0, 0, 0, 0, 0, 0, 1] = { data := #[0, 0, 0, 0, 0, 0, 0, 1] } := rfl

set_option maxHeartbeats 1000000 in
theorem awake_any (w : World) : Calls Try.prog 10 #[] w fun e w' => e = .returned (.bool true) ∧ Below w.heap.size w w' := by
  have kc := conv_const
  have kd := conv_const_drew
  go_enter Try.func10, Try.ntmps10
  go_wp2_with fail
  refine (put_any [] [1] none (some ⟨w.heap.size, 0, none⟩) 0 0 1 1 _ (RowIn.ofNil _ _) ?_ ?_ ?_).mono ?_
  · exact RowIn.lit _ _ _ _ _ _ _ _ [1] rfl rfl rfl (by simp [maxLen])
  · intro n hn; simp at hn; subst hn; omega
  · omega
  rintro e w1 ⟨rfl, hown, hbel⟩
  have hc1 := run_convert_bytes_arg (P := Try.prog) w1 22 5 Try.underlying22 Try.underlying5 (w.alloc (.cells #[.int .u64 1] 26)).heap.size 0 8 8 _ rfl (fun i hi => by obtain ⟨b, off, e, _, h⟩ := (RowIn.owned (zs := [0, 0, 0, 0, 0, 0, 0, 1]) hown).cell i hi; cases e; exact h) 9 Try.underlying9
  rw [str8] at hc1
  have hsz : w.heap.size + 1 < w1.heap.size + 1 := by have := hbel.size; simp at this; omega
  have hb1 : Below w.heap.size w w1 := ((Below.refl _ _).alloc (Nat.le_refl _) _).trans (hbel.mono (by simp))
  simp only [World.size_alloc] at hc1
  clear hown hbel
  go_wp2_with fail
  refine (first_any [97, 98] [97, 99] _ _ 2 2 2 2 _ ?_ ?_).mono ?_
  · refine RowIn.alloc ?_ _
    exact RowIn.lit _ _ _ _ _ _ _ _ _ rfl rfl rfl (by simp [maxLen])
  · exact RowIn.lit _ _ _ _ _ _ _ _ _ (by simp) rfl rfl (by simp [maxLen])
  rintro e w2 ⟨rfl, nq, rfl⟩
  rw [show parts [97, 98] [97, 99] 0 = 1 from by decide]
  go_wp2_with fail
  refine (first_any [97] [97, 98] _ _ 1 2 1 2 _ ?_ ?_).mono ?_
  · refine RowIn.alloc ?_ _
    exact RowIn.lit _ _ _ _ _ _ _ _ _ (by simp) rfl rfl (by simp [maxLen])
  · exact RowIn.lit _ _ _ _ _ _ _ _ _ (by simp) rfl rfl (by simp [maxLen])
  rintro e w2 ⟨rfl, nq2, rfl⟩
  rw [show parts [97] [97, 98] 0 = 1 from by decide]
  go_wp2_with fail
  go_ret
  refine ⟨rfl, ?_⟩
  have hz := hb1.size
  refine below_drewN ?_ _
  refine Below.alloc ?_ (by simp; omega) _
  refine Below.alloc ?_ (by simp; omega) _
  refine below_drewN ?_ _
  refine Below.alloc ?_ (by simp; omega) _
  exact hb1.alloc hz _
end Go.Proofs.Ytkcjeholgeneoaa

/- Layer 10's scripts: rows of deeds that came in. -/
import Derived.Test.YtphahkjjmomjcaaEvents

import Derived.Test.YtphahkjjmomjcaaObjs

import Derived.Test.YtphahkjjmomjcaaRows

namespace Go.Proofs.Ytphahkjjmomjcaa

open Go.ChangeShapes Go.WideShapes Go.ChangeAt Go.RowKit

set_option linter.unusedVariables false

theorem wf_u8a {a : Int} (h : (Lit.int .u8 a).wf = true) : 0 ≤ a ∧ a ≤ 255 := by
  simpa [Lit.wf, IntKind.min, IntKind.max, IntKind.signed, IntKind.bits] using h
abbrev scriptSh : Sh := .st (.pair (.int .u8) (.pair (.int .u8) (.pair voteSh .unit)))
/-- the nine cells of a deed -/
abbrev scells9 (x0 x1 : Int) (v : Vt) (ao : Option Addr) (l c : Nat) : List Value := [.int .u8 x0, .int .u8 x1, .int .i64 v.slot, .int .u64 v.head, .int .i64 v.sE, .int .u64 v.sR, .int .i64 v.tE, .int .u64 v.tR, .slice ao l c]
/-- a row of deeds -/
def Script (w : World) (a : Option Addr) (l : Nat) : Prop := l ≤ maxLen ∧ (0 < l → ∃ b off, a = some ⟨b, off, none⟩ ∧ b < w.heap.size ∧ ∀ i, i < l → ∃ x0 x1 v ao n c, (0 ≤ x0 ∧ x0 ≤ 255) ∧ (0 ≤ x1 ∧ x1 ≤ 255) ∧ Vt.Wf v ∧ RowIn .i64 w ao n c v.who ∧ ∀ j, j < 9 → w.cell? ⟨b, off + i * 9 + j, none⟩ = (scells9 x0 x1 v ao n c)[j]?)
theorem script_of {w : World} {a : Option Addr} {l c : Nat} {e : Sh.Val (.slice scriptSh)} (h : Sh.In (.slice scriptSh) w [.slice a l c] e) : Script w a l := by
  obtain ⟨ao, n, c', e', h⟩ := h
  simp at e'
  obtain ⟨rfl, rfl, rfl⟩ := e'
  refine ⟨Nat.le_trans h.cap.1 h.cap.2, fun hl => ?_⟩
  obtain ⟨b, off, cs, ha, hlt, _⟩ := h.row 0 (by rw [h.len]; exact hl)
  refine ⟨b, off, ha, hlt, fun i hi => ?_⟩
  obtain ⟨b', off', cs', ha', _, hcl, hcc, hv⟩ := h.row i (by rw [h.len]; exact hi)
  rw [ha] at ha'
  cases ha'
  obtain ⟨c0, r0, e0, l0, ⟨i0, f0⟩, c1, r1, e1, l1, ⟨i1, f1⟩, c2, r2, e2, l2, f2, e3⟩ := hv
  subst i0 i1
  obtain ⟨hwf, ao, n, c3, hc2, hrow⟩ := voteC_of f2
  rw [show r2 = [] from e3] at e2
  subst hc2
  refine ⟨_, _, _, ao, n, c3, wf_u8a f0, wf_u8a f1, hwf, hrow, fun j hj => ?_⟩
  rw [Nat.add_assoc, show i * 9 = i * Sh.size scriptSh from rfl, hcc j hj, e0, e1, e2]
  rfl
theorem Script.below {w w' : World} {a : Option Addr} {l : Nat} (h : Script w a l) (hb : Below w.heap.size w w') : Script w' a l := ⟨h.1, fun hl => by
  obtain ⟨b, off, e, hlt, hc⟩ := h.2 hl
  refine ⟨b, off, e, Nat.lt_of_lt_of_le hlt hb.size, fun i hi => ?_⟩
  obtain ⟨x0, x1, v, ao, n, c, b0, b1, b2, hr, h4⟩ := hc i hi
  exact ⟨x0, x1, v, ao, n, c, b0, b1, b2, hr.below hb, fun j hj => (hb.cell (p := ⟨b, off + i * 9 + j, none⟩) hlt).trans (h4 j hj)⟩⟩
theorem Script.alloc {w : World} {a : Option Addr} {l : Nat} (h : Script w a l) (o : Obj) : Script (w.alloc o) a l := Script.below h (below_alloc _ _)
abbrev sobj (x0 x1 : Int) (v : Vt) (ao : Option Addr) (l c : Nat) : Obj := .cells (scells9 x0 x1 v ao l c).toArray 72
theorem script_load {w : World} {b o : Nat} {x0 x1 : Int} {v : Vt} {ao : Option Addr} {l c : Nat} (h : ∀ j, j < 9 → w.cell? ⟨b, o + j, none⟩ = (scells9 x0 x1 v ao l c)[j]?) :
    (Instr.loadAt 72 (.pointer (some ⟨b, o, none⟩))).run Try.prog w = .ok (.agg (scells9 x0 x1 v ao l c).toArray) w :=
  load_mid (n := 9) (cs := scells9 x0 x1 v ao l c) Try.underlying72 (by kernel_rfl) rfl h
theorem script_store (w : World) (x0 x1 : Int) (v : Vt) (ao : Option Addr) (l c : Nat) : (Instr.storeAt 72 (.pointer (some ⟨w.heap.size, 0, none⟩)) (.agg (scells9 x0 x1 v ao l c).toArray)).run Try.prog (w.alloc (.cells #[.int .u8 0, .int .u8 0, .int .i64 0, .int .u64 0, .int .i64 0, .int .u64 0, .int .i64 0, .int .u64 0, .slice none 0 0] 72)) = .ok () (w.alloc (sobj x0 x1 v ao l c)) :=
  store_new (n := 9) (cs := scells9 x0 x1 v ao l c) (by kernel_rfl) rfl rfl (by simp [Value.oneCell']) rfl
end Go.Proofs.Ytphahkjjmomjcaa

/- Scripts: rows of deeds that came in. -/
import Derived.Test.YtphahkjjmomjcaaDoorShapes

import Derived.Test.YtphahkjjmomjcaaDoorTAwake

import Derived.Maps.RangeWalk

namespace Go.Proofs.YtphahkjjmomjcaaDoor

open Go.ChangeShapes Go.WideShapes Go.ChangeAt Go.RowKit

set_option linter.unusedVariables false

def u8B (x : Int) : Prop := 0 ≤ x ∧ x ≤ 255
theorem u8_wf {x : Int} (h : (Lit.int .u8 x).wf = true) : u8B x := by unfold u8B; simpa [Lit.wf, IntKind.min, IntKind.max, IntKind.signed, IntKind.bits] using h
/-- a row of deeds, of four bytes each -/
def Acts (w : World) (a : Option Addr) (l : Nat) : Prop := l ≤ maxLen ∧ (0 < l → ∃ b off, a = some ⟨b, off, none⟩ ∧ b < w.heap.size ∧ ∀ i, i < l → ∃ x0 x1 x2 x3, u8B x0 ∧ u8B x1 ∧ u8B x2 ∧ u8B x3 ∧ ∀ j, j < 4 → w.cell? ⟨b, off + i * 4 + j, none⟩ = [Value.int .u8 x0, .int .u8 x1, .int .u8 x2, .int .u8 x3][j]?)
theorem acts_of {w : World} {a : Option Addr} {l c : Nat} {e : Sh.Val (.slice (.st (.pair (.int .u8) (.pair (.int .u8) (.pair (.int .u8) (.pair (.int .u8) .unit))))))} (h : Sh.In (.slice (.st (.pair (.int .u8) (.pair (.int .u8) (.pair (.int .u8) (.pair (.int .u8) .unit)))))) w [.slice a l c] e) : Acts w a l := by
  obtain ⟨ao, n, c', e', h⟩ := h
  simp at e'
  obtain ⟨rfl, rfl, rfl⟩ := e'
  refine ⟨Nat.le_trans h.cap.1 h.cap.2, fun hl => ?_⟩
  obtain ⟨b, off, cs, ha, hlt, _⟩ := h.row 0 (by rw [h.len]; exact hl)
  refine ⟨b, off, ha, hlt, fun i hi => ?_⟩
  obtain ⟨b', off', cs', ha', _, hcl, hcc, hv⟩ := h.row i (by rw [h.len]; exact hi)
  rw [ha] at ha'
  cases ha'
  obtain ⟨c0, r0, e0, l0, ⟨i0, f0⟩, c1, r1, e1, l1, ⟨i1, f1⟩, c2, r2, e2, l2, ⟨i2, f2⟩, c3, r3, e3, l3, ⟨i3, f3⟩, e4⟩ := hv
  subst i0 i1 i2 i3
  rw [show r3 = [] from e4] at e3
  refine ⟨_, _, _, _, u8_wf f0, u8_wf f1, u8_wf f2, u8_wf f3, fun j hj => ?_⟩
  rw [Nat.add_assoc, show i * 4 = i * Sh.size (.st (.pair (.int .u8) (.pair (.int .u8) (.pair (.int .u8) (.pair (.int .u8) .unit))))) from rfl, hcc j hj, e0, e1, e2, e3]
  rfl
theorem Acts.below {w w' : World} {a : Option Addr} {l : Nat} (h : Acts w a l) (hb : Below w.heap.size w w') : Acts w' a l := ⟨h.1, fun hl => by
  obtain ⟨b, off, e, hlt, hc⟩ := h.2 hl
  refine ⟨b, off, e, Nat.lt_of_lt_of_le hlt hb.size, fun i hi => ?_⟩
  obtain ⟨x0, x1, x2, x3, b0, b1, b2, b3, h4⟩ := hc i hi
  exact ⟨x0, x1, x2, x3, b0, b1, b2, b3, fun j hj => (hb.cell (p := ⟨b, off + i * 4 + j, none⟩) hlt).trans (h4 j hj)⟩⟩
/-- a deed is loaded, and laid into a new variable -/
theorem act_load {w : World} {b o : Nat} {x0 x1 x2 x3 : Int} (h : ∀ j, j < 4 → w.cell? ⟨b, o + j, none⟩ = [Value.int .u8 x0, .int .u8 x1, .int .u8 x2, .int .u8 x3][j]?) :
    (Instr.loadAt 32 (.pointer (some ⟨b, o, none⟩))).run Tryd.prog w = .ok (.agg #[.int .u8 x0, .int .u8 x1, .int .u8 x2, .int .u8 x3]) w :=
  load_mid (n := 4) (cs := [.int .u8 x0, .int .u8 x1, .int .u8 x2, .int .u8 x3]) Tryd.underlying32 (by kernel_rfl) rfl h
theorem act_store (w : World) (x0 x1 x2 x3 : Int) : (Instr.storeAt 32 (.pointer (some ⟨w.heap.size, 0, none⟩)) (.agg #[.int .u8 x0, .int .u8 x1, .int .u8 x2, .int .u8 x3])).run Tryd.prog (w.alloc (.cells #[.int .u8 0, .int .u8 0, .int .u8 0, .int .u8 0] 32)) = .ok () (w.alloc (.cells #[.int .u8 x0, .int .u8 x1, .int .u8 x2, .int .u8 x3] 32)) :=
  store_new (n := 4) (cs := [.int .u8 x0, .int .u8 x1, .int .u8 x2, .int .u8 x3]) (by kernel_rfl) rfl rfl (by simp [Value.oneCell']) rfl
end Go.Proofs.YtphahkjjmomjcaaDoor

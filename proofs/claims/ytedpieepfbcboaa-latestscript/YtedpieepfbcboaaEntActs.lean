/- Layer 11's scripts: rows of deeds that came in; an entry of a row laid anew. -/
import Derived.Test.YtedpieepfbcboaaShapes

import Derived.Test.YtedpieepfbcboaaEntMath

import Derived.Maps.RangeWalk

namespace Go.Proofs.Ytedpieepfbcboaa

open Go.ChangeShapes Go.WideShapes Go.ChangeAt Go.RowKit

set_option linter.unusedVariables false

abbrev dcells (x0 x1 x2 x3 : Int) : List Value := [.int .u8 x0, .int .i8 x1, .int .i8 x2, .int .u64 x3]
abbrev dobj (x0 x1 x2 x3 : Int) : Obj := .cells (dcells x0 x1 x2 x3).toArray 68
/-- a row of deeds -/
def Deeds (w : World) (a : Option Addr) (l : Nat) : Prop := l ≤ maxLen ∧ (0 < l → ∃ b off, a = some ⟨b, off, none⟩ ∧ b < w.heap.size ∧ ∀ i, i < l → ∃ x0 x1 x2 x3, (0 ≤ x0 ∧ x0 ≤ 255) ∧ (-128 ≤ x1 ∧ x1 ≤ 127) ∧ (-128 ≤ x2 ∧ x2 ≤ 127) ∧ (Lit.int .u64 x3).wf = true ∧ ∀ j, j < 4 → w.cell? ⟨b, off + i * 4 + j, none⟩ = (dcells x0 x1 x2 x3)[j]?)
theorem deeds_of {w : World} {a : Option Addr} {l c : Nat} {e : Sh.Val (.slice (.st (.pair (.int .u8) (.pair (.int .i8) (.pair (.int .i8) (.pair (.int .u64) .unit))))))} (h : Sh.In (.slice (.st (.pair (.int .u8) (.pair (.int .i8) (.pair (.int .i8) (.pair (.int .u64) .unit)))))) w [.slice a l c] e) : Deeds w a l := by
  obtain ⟨ao, n, c', e', h⟩ := h
  simp at e'
  obtain ⟨rfl, rfl, rfl⟩ := e'
  refine ⟨Nat.le_trans h.cap.1 h.cap.2, fun hl => ?_⟩
  obtain ⟨b, off, cs, ha, hlt, _⟩ := h.row 0 (by rw [h.len]; exact hl)
  refine ⟨b, off, ha, hlt, fun i hi => ?_⟩
  obtain ⟨b', off', cs', ha', _, hcl, hcc, hv⟩ := h.row i (by rw [h.len]; exact hi)
  rw [ha] at ha'
  cases ha'
  obtain ⟨c0, r0, e0, l0, ⟨i0, f0⟩, c1, r1, e1, l1, ⟨i1, f1⟩, c2, r2, e2, l2, ⟨i2, f2⟩, c3, r3, e3, l3, ⟨i3, f3⟩, e4⟩ := hv
  subst i0 i1 i2 i3
  rw [show r3 = [] from e4] at e3
  refine ⟨_, _, _, _, wf_u8e f0, wf_i8e f1, wf_i8e f2, f3, fun j hj => ?_⟩
  rw [Nat.add_assoc, show i * 4 = i * Sh.size (.st (.pair (.int .u8) (.pair (.int .i8) (.pair (.int .i8) (.pair (.int .u64) .unit))))) from rfl, hcc j hj, e0, e1, e2, e3]
  rfl
theorem Deeds.below {w w' : World} {a : Option Addr} {l : Nat} (h : Deeds w a l) (hb : Below w.heap.size w w') : Deeds w' a l := ⟨h.1, fun hl => by
  obtain ⟨b, off, e, hlt, hc⟩ := h.2 hl
  refine ⟨b, off, e, Nat.lt_of_lt_of_le hlt hb.size, fun i hi => ?_⟩
  obtain ⟨x0, x1, x2, x3, b0, b1, b2, b3, h4⟩ := hc i hi
  exact ⟨x0, x1, x2, x3, b0, b1, b2, b3, fun j hj => (hb.cell (p := ⟨b, off + i * 4 + j, none⟩) hlt).trans (h4 j hj)⟩⟩
/-- a deed is loaded, and laid into a new variable -/
theorem deed_load {w : World} {b o : Nat} {x0 x1 x2 x3 : Int} (h : ∀ j, j < 4 → w.cell? ⟨b, o + j, none⟩ = (dcells x0 x1 x2 x3)[j]?) :
    (Instr.loadAt 68 (.pointer (some ⟨b, o, none⟩))).run Try.prog w = .ok (.agg (dcells x0 x1 x2 x3).toArray) w :=
  load_mid (n := 4) (cs := dcells x0 x1 x2 x3) Try.underlying68 (by kernel_rfl) rfl h
theorem deed_store (w : World) (x0 x1 x2 x3 : Int) : (Instr.storeAt 68 (.pointer (some ⟨w.heap.size, 0, none⟩)) (.agg (dcells x0 x1 x2 x3).toArray)).run Try.prog (w.alloc (.cells #[.int .u8 0, .int .i8 0, .int .i8 0, .int .u64 0] 68)) = .ok () (w.alloc (dobj x0 x1 x2 x3)) :=
  store_new (n := 4) (cs := dcells x0 x1 x2 x3) (by kernel_rfl) rfl rfl (by simp [Value.oneCell']) rfl
/-- the first entry's cells -/
theorem ent_cells0 {w : World} {g : Nat} {es : List Ent} (h : OAt w g (eobj es)) (hk : 0 < es.length) (x : Ent) (hx : entK es 0 = x) :
    w.cell? ⟨g, 0, none⟩ = some (.bool x.h) ∧ w.cell? ⟨g, 1, none⟩ = some (.int .i64 x.e) ∧ w.cell? ⟨g, 2, none⟩ = some (.int .u64 x.r) ∧ w.cell? ⟨g, 3, none⟩ = some (.bool x.b) := by
  have := ent_cells h 0 hk x hx
  simpa using this
/-- four cells from k * 4 on: entry k -/
theorem wrote_ent (es : List Ent) (k : Nat) (hk : k < es.length) (x : Ent) : wrote (entC es).toArray (k * 4) x.cells = (entC (es.set k x)).toArray := by
  have hl := entC_len es
  have h4 : x.cells.length = 4 := rfl
  have e : wrote (entC es).toArray (k * 4) x.cells = (wrote (entC es).toArray (k * 4) x.cells).toList.toArray := by simp
  rw [e]
  congr 1
  refine entC_set es k hk x _ (by simp [wrote_size, hl]) (fun j hj => ?_) (fun i hi => ?_)
  · rw [Array.getElem?_toList, wrote_get _ _ _ _ (by simp [hl]; omega), if_pos (by omega)]
    congr 1
    omega
  · rw [Array.getElem?_toList, wrote_get _ _ _ _ (by simp [hl]; omega), if_neg (by omega)]
    simp
theorem ent_one (x : Ent) : ∀ v ∈ x.cells, v.oneCell' = true := by simp [Value.oneCell']
theorem ent_store {w : World} {g : Nat} {es : List Ent} (h : OAt w g (eobj es)) (k : Nat) (hk : k < es.length) (x : Ent) :
    ∃ w', (Instr.storeAt 71 (.pointer (some ⟨g, k * 4, none⟩)) (.agg x.cells.toArray)).run Try.prog w = .ok () w' ∧ OAt w' g (eobj (es.set k x)) ∧ Apart g w w' := by
  obtain ⟨w', hr, ho, ha⟩ := store_part (P := Try.prog) (ty := 71) (n := 4) (o := k * 4) (cs := x.cells) infoEs rfl (by simp [entC_len]; omega) (ent_one x) h.at_
  rw [wrote_ent es k hk x] at ho
  exact ⟨w', hr, OAt.of ho, ha⟩
end Go.Proofs.Ytedpieepfbcboaa

/- Contract of Cut. -/
import Derived.Test.YtfkabmgbcdoijaaTCutP

import Derived.Test.YtfkabmgbcdoijaaTSort

import Derived.Test.YtfkabmgbcdoijaaHand

import Derived.Maps.RangeWalk

namespace Go.Proofs.Ytfkabmgbcdoijaa

open Go.ChangeShapes Go.WideShapes Go.ChangeAt Go.RowKit

set_option linter.unusedVariables false
/-- what Cut leaves, of a block that is there -/
def CutDone (F : Nat → Prop) (p : Nat) (bs : List TBlk) (b : Nat) (w : World) (e : Ending) (w' : World) : Prop :=
  ∃ gv, e = .returned gv ∧ w'.ownsRow w.heap.size 29 1 gv (GL bs b bs.length).length ((rise (GL bs b bs.length)).map (Value.int .u64)) ∧
    ∃ F' ts, TAt w' F' p ts ∧ TOk ts ∧ CutOf bs (SL bs b bs.length) ts ∧ Turn F w w' ∧ (∀ i, F' i → F i ∨ w.heap.size ≤ i) ∧ ∀ g, gv.ownBlock = some g → ¬ F' g

/-- how far Cut has come -/
def CutInv (bs : List TBlk) (b p2 : Nat) (w : World) (m : Nat) (gv : Value) (wr : World) : Prop :=
  wr.ownsRow w.heap.size 29 1 gv (GL bs b m).length ((GL bs b m).map (Value.int .u64)) ∧ Below w.heap.size w wr ∧
    ∃ F2 ts, TAt wr F2 p2 ts ∧ TOk ts ∧ CutOf bs (SL bs b m) ts ∧ (∀ k, F2 k → w.heap.size ≤ k) ∧ (∀ k, F2 k → k < wr.heap.size) ∧ ∀ g, gv.ownBlock = some g → ¬ F2 g
theorem CutInv.below {bs : List TBlk} {b p2 : Nat} {w : World} {m : Nat} {gv : Value} {wr w' : World} (h : CutInv bs b p2 w m gv wr) (hb : Below wr.heap.size wr w') : CutInv bs b p2 w m gv w' := by
  obtain ⟨h1, h2, F2, ts, h3, h4, h5, h6, h7, h8⟩ := h
  exact ⟨owns_below h1 hb, h2.trans (hb.mono h2.size), F2, ts, h3.below hb, h4, h5, h6, fun k hk => Nat.lt_of_lt_of_le (h7 k hk) hb.size, h8⟩
theorem CutInv.self {bs : List TBlk} {b p2 : Nat} {w : World} {gv : Value} {wr : World} (h : CutInv bs b p2 w b gv wr) : CutInv bs b p2 w (b + 1) gv wr := by
  obtain ⟨h1, h2, F2, ts, h3, h4, h5, h6⟩ := h
  exact ⟨by rw [GL_in (stands_self bs b)]; exact h1, h2, F2, ts, h3, h4, by rw [SL_self]; exact h5, h6⟩

end Go.Proofs.Ytfkabmgbcdoijaa

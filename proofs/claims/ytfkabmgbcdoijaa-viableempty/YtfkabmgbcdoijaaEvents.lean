/- Votes, proofs, blocks and events (package api) as plain data, and where they lie in memory. Nothing of the program. -/
import Derived.Test.YtfkabmgbcdoijaaShapes

namespace Go.Proofs.Ytfkabmgbcdoijaa

open Go.ChangeShapes Go.WideShapes Go.RowKit

set_option linter.unusedVariables false

structure Vt where
  slot : Int
  head : Int
  sE : Int
  sR : Int
  tE : Int
  tR : Int
  who : List Int
structure Pf where
  a : Vt
  b : Vt
structure Bk where
  root : Int
  parent : Int
  slot : Int
  votes : List Vt
  proofs : List Pf
structure Ev where
  kind : Int
  slot : Int
  block : Bk
  vote : Vt
  proof : Pf

abbrev pointSh : Sh := .st (.pair (.int .i64) (.pair (.int .u64) .unit))
abbrev voteSh : Sh := .st (.pair (.int .i64) (.pair (.int .u64) (.pair pointSh (.pair pointSh (.pair (.slice (.int .i64)) .unit)))))
abbrev proofSh : Sh := .st (.pair voteSh (.pair voteSh .unit))
abbrev blockSh : Sh := .st (.pair (.int .u64) (.pair (.int .u64) (.pair (.int .i64) (.pair (.slice voteSh) (.pair (.slice proofSh) .unit)))))
abbrev eventSh : Sh := .st (.pair (.int .i64) (.pair (.int .i64) (.pair blockSh (.pair voteSh (.pair proofSh .unit)))))

def IsI64 (a : Int) : Prop := -9223372036854775808 ≤ a ∧ a ≤ 9223372036854775807
def IsU64 (a : Int) : Prop := 0 ≤ a ∧ a ≤ 18446744073709551615

def Vt.Wf (v : Vt) : Prop := IsI64 v.slot ∧ IsU64 v.head ∧ IsI64 v.sE ∧ IsU64 v.sR ∧ IsI64 v.tE ∧ IsU64 v.tR ∧ ∀ x ∈ v.who, IsI64 x

/-- the seven cells of a vote -/
def VoteC (w : World) (cs : List Value) (v : Vt) : Prop :=
  v.Wf ∧ ∃ ao l c, cs = [.int .i64 v.slot, .int .u64 v.head, .int .i64 v.sE, .int .u64 v.sR, .int .i64 v.tE, .int .u64 v.tR, .slice ao l c] ∧ RowIn .i64 w ao l c v.who
/-- the fourteen cells of a proof -/
def ProofC (w : World) (cs : List Value) (p : Pf) : Prop := ∃ x y, cs = x ++ y ∧ VoteC w x p.a ∧ VoteC w y p.b
/-- the five cells of a block -/
def BlockC (w : World) (cs : List Value) (b : Bk) : Prop :=
  (IsU64 b.root ∧ IsU64 b.parent ∧ IsI64 b.slot) ∧ ∃ ao l c ao2 l2 c2, cs = [.int .u64 b.root, .int .u64 b.parent, .int .i64 b.slot, .slice ao l c, .slice ao2 l2 c2] ∧
    RowsIn (VoteC w) 7 w ao l c b.votes ∧ RowsIn (ProofC w) 14 w ao2 l2 c2 b.proofs
/-- the twenty-eight cells of an event -/
def EventC (w : World) (cs : List Value) (e : Ev) : Prop :=
  (IsI64 e.kind ∧ IsI64 e.slot) ∧ ∃ x y z, cs = .int .i64 e.kind :: .int .i64 e.slot :: (x ++ (y ++ z)) ∧ BlockC w x e.block ∧ VoteC w y e.vote ∧ ProofC w z e.proof

def toVt (v : voteSh.Val) : Vt := ⟨v.1, v.2.1, v.2.2.1.1, v.2.2.1.2.1, v.2.2.2.1.1, v.2.2.2.1.2.1, v.2.2.2.2.1⟩
def toPf (v : proofSh.Val) : Pf := ⟨toVt v.1, toVt v.2.1⟩
def toBk (v : blockSh.Val) : Bk := ⟨v.1, v.2.1, v.2.2.1, List.map toVt v.2.2.2.1, List.map toPf v.2.2.2.2.1⟩
def toEv (v : eventSh.Val) : Ev := ⟨v.1, v.2.1, toBk v.2.2.1, toVt v.2.2.2.1, toPf v.2.2.2.2.1⟩

theorem pointC_of {w : World} {cs : List Value} {v : pointSh.Val} (h : pointSh.In w cs v) : cs = [.int .i64 v.1, .int .u64 v.2.1] ∧ IsI64 v.1 ∧ IsU64 v.2.1 := by
  obtain ⟨x1, y1, rfl, _, ⟨rfl, h1⟩, x2, y2, rfl, _, ⟨rfl, h2⟩, h3⟩ := h
  obtain rfl : y2 = [] := h3
  exact ⟨rfl, wf_i64 h1, wf_u64 h2⟩
theorem voteC_of {w : World} {cs : List Value} {v : voteSh.Val} (h : voteSh.In w cs v) : VoteC w cs (toVt v) := by
  obtain ⟨x1, y1, rfl, _, ⟨rfl, h1⟩, x2, y2, rfl, _, ⟨rfl, h2⟩, x3, y3, rfl, _, h3, x4, y4, rfl, _, h4, x5, y5, rfl, _, ⟨ao, l, c, rfl, h5⟩, h6⟩ := h
  obtain rfl : y5 = [] := h6
  obtain ⟨rfl, h31, h32⟩ := pointC_of h3
  obtain ⟨rfl, h41, h42⟩ := pointC_of h4
  exact ⟨⟨wf_i64 h1, wf_u64 h2, h31, h32, h41, h42, fun x hx => wf_i64 (RowsIn.wf h5 x hx)⟩, ao, l, c, rfl, RowsIn.ints h5⟩
theorem proofC_of {w : World} {cs : List Value} {v : proofSh.Val} (h : proofSh.In w cs v) : ProofC w cs (toPf v) := by
  obtain ⟨x1, y1, rfl, _, h1, x2, y2, rfl, _, h2, h3⟩ := h
  obtain rfl : y2 = [] := h3
  exact ⟨x1, x2, by simp, voteC_of h1, voteC_of h2⟩
theorem blockC_of {w : World} {cs : List Value} {v : blockSh.Val} (h : blockSh.In w cs v) : BlockC w cs (toBk v) := by
  obtain ⟨x1, y1, rfl, _, ⟨rfl, h1⟩, x2, y2, rfl, _, ⟨rfl, h2⟩, x3, y3, rfl, _, ⟨rfl, h3⟩, x4, y4, rfl, _, ⟨ao, l, c, rfl, h4⟩, x5, y5, rfl, _, ⟨ao2, l2, c2, rfl, h5⟩, h6⟩ := h
  obtain rfl : y5 = [] := h6
  exact ⟨⟨wf_u64 h1, wf_u64 h2, wf_i64 h3⟩, ao, l, c, ao2, l2, c2, rfl, h4.map toVt fun cs v h => voteC_of h, h5.map toPf fun cs v h => proofC_of h⟩
theorem eventC_of {w : World} {cs : List Value} {v : eventSh.Val} (h : eventSh.In w cs v) : EventC w cs (toEv v) := by
  obtain ⟨x1, y1, rfl, _, ⟨rfl, h1⟩, x2, y2, rfl, _, ⟨rfl, h2⟩, x3, y3, rfl, _, h3, x4, y4, rfl, _, h4, x5, y5, rfl, _, h5, h6⟩ := h
  obtain rfl : y5 = [] := h6
  exact ⟨⟨wf_i64 h1, wf_i64 h2⟩, x3, x4, x5, by simp [toEv], blockC_of h3, voteC_of h4, proofC_of h5⟩
theorem eventsC_of {w : World} {a : Option Addr} {l c : Nat} {vs : List eventSh.Val} (h : (Sh.slice eventSh).In w [.slice a l c] vs) : RowsIn (EventC w) 28 w a l c (vs.map toEv) := by
  obtain ⟨ao, n, d, e, h⟩ := h
  cases e
  exact h.map toEv fun cs v h => eventC_of h

theorem VoteC.below {w w' : World} {cs : List Value} {v : Vt} (h : VoteC w cs v) (hb : Below w.heap.size w w') : VoteC w' cs v := by
  obtain ⟨hw, ao, l, c, e, hr⟩ := h
  exact ⟨hw, ao, l, c, e, hr.below hb⟩
theorem ProofC.below {w w' : World} {cs : List Value} {v : Pf} (h : ProofC w cs v) (hb : Below w.heap.size w w') : ProofC w' cs v := by
  obtain ⟨x, y, e, h1, h2⟩ := h
  exact ⟨x, y, e, h1.below hb, h2.below hb⟩
theorem BlockC.below {w w' : World} {cs : List Value} {v : Bk} (h : BlockC w cs v) (hb : Below w.heap.size w w') : BlockC w' cs v := by
  obtain ⟨hw, ao, l, c, ao2, l2, c2, e, h1, h2⟩ := h
  exact ⟨hw, ao, l, c, ao2, l2, c2, e, h1.mono hb fun cs v h => h.below hb, h2.mono hb fun cs v h => h.below hb⟩
theorem EventC.below {w w' : World} {cs : List Value} {v : Ev} (h : EventC w cs v) (hb : Below w.heap.size w w') : EventC w' cs v := by
  obtain ⟨hw, x, y, z, e, h1, h2, h3⟩ := h
  exact ⟨hw, x, y, z, e, h1.below hb, h2.below hb, h3.below hb⟩
end Go.Proofs.Ytfkabmgbcdoijaa

/- 'append(v, x...)' where v is a row of the call's own (or nil) and x any row that can be read (or nil): as a step of a region that draws its order, and at a list of operations. -/
import Derived.Test.YtfkabmgbcdoijaaOctMath

import Derived.WalkKit

import Derived.Deep.RegionLaw

namespace Go.Proofs.Ytfkabmgbcdoijaa

open Go.RowKit

/-- the row behind an owned value, nil or not -/
theorem RowIn.ofOwned {w : World} {base e n : Nat} {v : Value} {k : IntKind} {zs : List Int} (h : w.ownsRow base e 1 v n (zs.map (Value.int k))) : ∃ ao c, v = .slice ao n c ∧ RowIn k w ao n c zs := by
  rcases h.2 with ⟨rfl, rfl⟩ | ⟨g, cap, cur, rfl, _⟩
  · have : zs = [] := by have := h.1; simpa using this
    subst this
    exact ⟨none, 0, rfl, RowIn.ofNil _ _⟩
  · exact ⟨_, _, rfl, RowIn.owned h⟩

theorem run_append_rows {P : Program} (w : World) (base : Nat) (t ty e : TypeId) (i : TypeInfo) (k : IntKind) (z : Value) (bytes : Nat) (ht : P.underlying t = some (.slice e)) (hi : P.info? e = some i) (hz : i.zero = some z)
    (hsize : i.size = 1) (hby : i.bytes = bytes) (hzs : z.cells.size = 1) (v : Value) (n : Nat) (xs : List Int) (hown : w.ownsRow base e 1 v n (xs.map (Value.int k)))
    (ao : Option Addr) (m c : Nat) (ys : List Int) (hx : RowIn k w ao m c ys) (h63 : n + m ≤ maxLen) (hbytes : (n + m) * bytes ≤ 140737488355328) (hbase : base ≤ w.heap.size) :
    ∃ v' w', (Builtin.append_ #[t, t] ty #[v, .slice ao m c]).run P w = .ok v' w' ∧ w'.ownsRow base e 1 v' (n + m) ((xs ++ ys).map (Value.int k)) ∧ w.grownBy w' v.ownBlock := by
  cases ao with
  | none =>
    obtain ⟨rfl, rfl⟩ := hx.nil rfl
    have : ys = [] := List.eq_nil_of_length_eq_zero hx.len
    subst this
    exact ⟨v, w, run_append_owned_none (P := P) w base t ty e i 1 ht hi v n _ hown, by simpa using hown, World.grownBy.refl _ _⟩
  | some a =>
    have hl : (ys.map (Value.int k)).length = m * 1 := by simp [hx.len]
    have hc : ∀ j u, (ys.map (Value.int k))[j]? = some u → w.cell? (a.add j) = some u := by
      intro j u hu
      have hj : j < ys.length := by have := (List.getElem?_eq_some_iff.1 hu).1; simpa using this
      obtain ⟨b, off, e2, _, hcell⟩ := hx.cell j (by rw [← hx.len]; exact hj)
      cases e2
      rw [Addr.add_lit, hcell]
      simpa [List.getD_eq_getElem?_getD, List.getElem?_eq_getElem hj] using hu
    obtain ⟨v', w', hr, h2, h3, _⟩ := run_append_own (P := P) w base t ty e i z 1 bytes ht hi hz hsize hby hzs (by omega) v n _ hown a m c _ hl hc (ints_oneCell _ _) h63 hbytes hbase
    exact ⟨v', w', hr, by rw [List.map_append]; exact h2, h3⟩

/-- as a step of a region that draws its order -/
theorem step_append_rows {P : Program} {ops : Array Oper} {o : Oper} {a : Act} {w : World} {K : Act → World → Prop} {Q : Exit → Act → World → Prop} {E : Prop}
    (hg : o.guard = none) (s x : Operand) (t : TypeId) (hop : o.op = Op.call { callee := Callee.builtin Builtin.append, args := #[s, x], argTypes := #[t, t] })
    (base : Nat) (e : TypeId) (i : TypeInfo) (k : IntKind) (z : Value) (bytes : Nat) (ht : P.underlying t = some (.slice e)) (hi : P.info? e = some i) (hz : i.zero = some z)
    (hsize : i.size = 1) (hby : i.bytes = bytes) (hzs : z.cells.size = 1) (v : Value) (n : Nat) (xs : List Int) (hs : a.eval s = v) (hown : w.ownsRow base e 1 v n (xs.map (Value.int k)))
    (ao : Option Addr) (m c : Nat) (ys : List Int) (hxe : a.eval x = .slice ao m c) (hx : RowIn k w ao m c ys) (h63 : n + m ≤ maxLen) (hbytes : (n + m) * bytes ≤ 140737488355328) (hbase : base ≤ w.heap.size)
    (hK : ∀ ao' c' w', w'.ownsRow base e 1 (.slice ao' (n + m) c') (n + m) ((xs ++ ys).map (Value.int k)) → w.grownBy w' v.ownBlock → K (a.put o.dst (.slice ao' (n + m) c')) w') :
    if Region.wanted o (yielded ops a.tmps) = true then Oper.wp P o a w K Q else E := by
  have hw : Region.wanted o (yielded ops a.tmps) = true := by simp [Region.wanted, hg]
  rw [if_pos hw]
  obtain ⟨v', w', hrun, r1, r2⟩ := run_append_rows (P := P) w base t o.type e i k z bytes ht hi hz hsize hby hzs v n xs hown ao m c ys hx h63 hbytes hbase
  obtain ⟨ao', c', rfl, _⟩ := RowIn.ofOwned r1
  unfold Oper.wp
  simp [execOp, hop, resolve, invoke, builtin, hs, hxe, hrun, Result.andThen]
  exact hK ao' c' w' r1 r2

/-- at a list of operations -/
theorem wpList_append_rows {P : Program} (w : World) {ops : Array Oper} {rest : List Oper} {o : Oper} {a : Act} {Q : Exit → Act → World → Prop}
    (hg : o.guard = none) (s x : Operand) (t : TypeId) (hop : o.op = Op.call { callee := Callee.builtin Builtin.append, args := #[s, x], argTypes := #[t, t] })
    (base : Nat) (e : TypeId) (i : TypeInfo) (k : IntKind) (z : Value) (bytes : Nat) (ht : P.underlying t = some (.slice e)) (hi : P.info? e = some i) (hz : i.zero = some z)
    (hsize : i.size = 1) (hby : i.bytes = bytes) (hzs : z.cells.size = 1) (v : Value) (n : Nat) (xs : List Int) (hs : a.eval s = v) (hown : w.ownsRow base e 1 v n (xs.map (Value.int k)))
    (ao : Option Addr) (m c : Nat) (ys : List Int) (hxe : a.eval x = .slice ao m c) (hx : RowIn k w ao m c ys) (h63 : n + m ≤ maxLen) (hbytes : (n + m) * bytes ≤ 140737488355328) (hbase : base ≤ w.heap.size)
    (hK : ∀ ao' c' w', w'.ownsRow base e 1 (.slice ao' (n + m) c') (n + m) ((xs ++ ys).map (Value.int k)) → w.grownBy w' v.ownBlock → wpList P ops Q rest (a.put o.dst (.slice ao' (n + m) c')) w') :
    wpList P ops Q (o :: rest) a w := by
  refine wpList_plain hg fun K hK' => ?_
  obtain ⟨v', w', hrun, r1, r2⟩ := run_append_rows (P := P) w base t o.type e i k z bytes ht hi hz hsize hby hzs v n xs hown ao m c ys hx h63 hbytes hbase
  obtain ⟨ao', c', rfl, _⟩ := RowIn.ofOwned r1
  unfold Oper.wp
  simp [execOp, hop, resolve, invoke, builtin, hs, hxe, hrun, Result.andThen]
  exact hK' _ _ (hK ao' c' w' r1 r2)
/-- an owned row stays owned where nothing old turns -/
theorem owns_below {w w' : World} {base e size n : Nat} {v : Value} {xs : List Value} (h : w.ownsRow base e size v n xs) (hb : Below w.heap.size w w') : w'.ownsRow base e size v n xs :=
  h.kept (row := none) ⟨hb.os, hb.tape, hb.output, hb.size, fun k hk _ => hb.block k hk⟩ (by cases v.ownBlock <;> simp)
end Go.Proofs.Ytfkabmgbcdoijaa

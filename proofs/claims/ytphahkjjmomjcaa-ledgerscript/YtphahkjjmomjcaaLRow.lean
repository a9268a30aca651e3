/- Rows of bools: such that are read, whole ones, 'append(v, x...)' of them; contract of slices.Clone of bools. -/
import Derived.Test.YtphahkjjmomjcaaRows

import Derived.Test.YtphahkjjmomjcaaOctMath

import Derived.Test.YtphahkjjmomjcaaRowLaws

import Derived.Test.YtphahkjjmomjcaaObjs

import Derived.WalkKit

import Derived.ProofKit

import Derived.OpenShut

import Derived.Below

import Derived.Deep.RegionLaw

namespace Go.Proofs.Ytphahkjjmomjcaa

open Go.ChangeShapes Go.WideShapes Go.ChangeAt Go.RowKit

set_option linter.unusedVariables false

/-- a row of bools that is read -/
structure RowB (w : World) (ao : Option Addr) (n c : Nat) (vs : List Bool) : Prop where
  len : vs.length = n
  nil : ao = none → n = 0 ∧ c = 0
  cell : ∀ i, i < n → ∃ b off, ao = some ⟨b, off, none⟩ ∧ b < w.heap.size ∧ w.cell? ⟨b, off + i, none⟩ = some (.bool (vs.getD i false))
  cap : n ≤ c ∧ c ≤ maxLen
theorem RowB.below {w w' : World} {ao : Option Addr} {n c : Nat} {vs : List Bool} (h : RowB w ao n c vs) (hb : RowKit.Below w.heap.size w w') : RowB w' ao n c vs :=
  ⟨h.len, h.nil, fun i hi => by
    obtain ⟨b, off, e, hlt, hc⟩ := h.cell i hi
    exact ⟨b, off, e, Nat.lt_of_lt_of_le hlt hb.size, (hb.cell (p := ⟨b, off + i, none⟩) hlt).trans hc⟩, h.cap⟩
theorem RowB.alloc {w : World} {ao : Option Addr} {n c : Nat} {vs : List Bool} (h : RowB w ao n c vs) (o : Obj) : RowB (w.alloc o) ao n c vs := h.below ((RowKit.Below.refl _ _).alloc (Nat.le_refl _) o)
theorem RowB.drew {w : World} {ao : Option Addr} {n c : Nat} {vs : List Bool} (h : RowB w ao n c vs) : RowB w.drew ao n c vs := h.below (Below.refl _ _).drew
/-- where it lies -/
theorem RowB.spot {w : World} {ao : Option Addr} {n c : Nat} {vs : List Bool} (h : RowB w ao n c vs) (hn : 0 < n) : ∃ b off, ao = some ⟨b, off, none⟩ ∧ b < w.heap.size ∧ ∀ i, i < n → w.cell? ⟨b, off + i, none⟩ = some (.bool (vs.getD i false)) := by
  obtain ⟨b, off, e, hlt, _⟩ := h.cell 0 hn
  refine ⟨b, off, e, hlt, fun i hi => ?_⟩
  obtain ⟨b', off', e', _, hc⟩ := h.cell i hi
  rw [e] at e'
  cases e'
  exact hc
theorem getB {n : Nat} (vs : List Bool) (h : vs.length = n) (i : Nat) (hi : i < n) : (vs.map Value.bool)[i]? = some (.bool (vs.getD i false)) := by
  simp [List.getD_eq_getElem?_getD, List.getElem?_eq_getElem (show i < vs.length by omega)]
/-- a row that lies elsewhere than in the block that turns -/
theorem RowB.aside {w w' : World} {r : Nat} {ao : Option Addr} {n c : Nat} {vs : List Bool} (h : RowB w ao n c vs) (ha : Apart r w w') (hr : ∀ b off, ao = some ⟨b, off, none⟩ → b ≠ r) : RowB w' ao n c vs :=
  ⟨h.len, h.nil, fun i hi => by
    obtain ⟨b, off, e, hlt, hc⟩ := h.cell i hi
    refine ⟨b, off, e, Nat.lt_of_lt_of_le hlt ha.size, ?_⟩
    rw [World.cell?_of_block (a := ⟨b, off + i, none⟩) (ha.block b hlt (hr b off e))]
    exact hc, h.cap⟩
theorem RowB.far {w : World} {ao : Option Addr} {n c : Nat} {vs : List Bool} (h : RowB w ao n c vs) (hn : 0 < n) : ∀ b off, ao = some ⟨b, off, none⟩ → b < w.heap.size := fun b off e => by
  obtain ⟨b', off', e', hlt, _⟩ := h.cell 0 hn
  rw [e] at e'
  cases e'
  exact hlt
/-- a whole one -/
theorem RowB.obj {w : World} {g n : Nat} {vs : List Bool} {t : TypeId} {m : Nat × Nat} (h : OAt w g (.cells (vs.map Value.bool).toArray t m)) (hn : vs.length = n) (hm : n ≤ maxLen) : RowB w (some ⟨g, 0, none⟩) n n vs :=
  ⟨hn, fun h => (by cases h), fun i hi => ⟨g, 0, rfl, h.lt, by rw [Nat.zero_add, h.cell i, List.getElem?_toArray]; exact getB vs hn i hi⟩, Nat.le_refl _, hm⟩
/-- an owned one -/
theorem RowB.owned {w : World} {base e g n cap : Nat} {vs : List Bool} (h : w.ownsRow base e 1 (.slice (some ⟨g, 0, none⟩) n cap) n (vs.map Value.bool)) : RowB w (some ⟨g, 0, none⟩) n cap vs := by
  have hl : vs.length = n := by have := h.1; simpa using this
  have hlt := (h.lt g rfl).2
  refine ⟨hl, fun h => by (cases h), fun i hi => ⟨g, 0, rfl, hlt, ?_⟩, ?_⟩
  · rw [Nat.zero_add, h.cellAt i (by omega)]
    exact getB vs hl i hi
  · rcases h.2 with ⟨h, _⟩ | ⟨g', cap', cur, h, _, _, hnc, hcm, _⟩
    · simp at h
    · simp only [Value.slice.injEq, Option.some.injEq, Addr.mk.injEq, and_true, true_and] at h
      obtain ⟨rfl, rfl⟩ := h
      exact ⟨hnc, hcm⟩
theorem RowB.ofOwned {w : World} {base e n : Nat} {v : Value} {vs : List Bool} (h : w.ownsRow base e 1 v n (vs.map Value.bool)) : ∃ ao c, v = .slice ao n c ∧ RowB w ao n c vs := by
  rcases h.2 with ⟨rfl, rfl⟩ | ⟨g, cap, cur, rfl, _⟩
  · have : vs = [] := by have := h.1; simpa using this
    subst this
    exact ⟨none, 0, rfl, rfl, fun _ => ⟨rfl, rfl⟩, fun i hi => by omega, by simp [maxLen]⟩
  · exact ⟨_, _, rfl, RowB.owned h⟩

theorem bools_one : ∀ (vs : List Bool), ∀ u ∈ vs.map Value.bool, u.oneCell' = true := by
  intro vs u hu
  obtain ⟨b, _, rfl⟩ := List.mem_map.1 hu
  rfl
theorem run_append_bools {P : Program} (w : World) (base : Nat) (t ty e : TypeId) (i : TypeInfo) (z : Value) (bytes : Nat) (ht : P.underlying t = some (.slice e)) (hi : P.info? e = some i) (hz : i.zero = some z)
    (hsize : i.size = 1) (hby : i.bytes = bytes) (hzs : z.cells.size = 1) (v : Value) (n : Nat) (xs : List Bool) (hown : w.ownsRow base e 1 v n (xs.map Value.bool))
    (ao : Option Addr) (m c : Nat) (ys : List Bool) (hx : RowB w ao m c ys) (h63 : n + m ≤ maxLen) (hbytes : (n + m) * bytes ≤ 140737488355328) (hbase : base ≤ w.heap.size) :
    ∃ v' w', (Builtin.append_ #[t, t] ty #[v, .slice ao m c]).run P w = .ok v' w' ∧ w'.ownsRow base e 1 v' (n + m) ((xs ++ ys).map Value.bool) ∧ w.grownBy w' v.ownBlock := by
  cases ao with
  | none =>
    obtain ⟨rfl, rfl⟩ := hx.nil rfl
    have : ys = [] := List.eq_nil_of_length_eq_zero hx.len
    subst this
    exact ⟨v, w, run_append_owned_none (P := P) w base t ty e i 1 ht hi v n _ hown, by simpa using hown, World.grownBy.refl _ _⟩
  | some a =>
    have hl : (ys.map Value.bool).length = m * 1 := by simp [hx.len]
    have hc : ∀ j u, (ys.map Value.bool)[j]? = some u → w.cell? (a.add j) = some u := by
      intro j u hu
      have hj : j < ys.length := by have := (List.getElem?_eq_some_iff.1 hu).1; simpa using this
      obtain ⟨b, off, e2, _, hcell⟩ := hx.cell j (by rw [← hx.len]; exact hj)
      cases e2
      rw [Addr.add_lit, hcell, ← hu]
      exact (getB ys rfl j hj).symm
    obtain ⟨v', w', hr, h2, h3, _⟩ := run_append_own (P := P) w base t ty e i z 1 bytes ht hi hz hsize hby hzs (by omega) v n _ hown a m c _ hl hc (bools_one ys) h63 hbytes hbase
    exact ⟨v', w', hr, by rw [List.map_append]; exact h2, h3⟩
/-- as a step of a region that draws its order -/
theorem step_append_bools {P : Program} {ops : Array Oper} {o : Oper} {a : Act} {w : World} {K : Act → World → Prop} {Q : Exit → Act → World → Prop} {E : Prop}
    (hg : o.guard = none) (s x : Operand) (t : TypeId) (hop : o.op = Op.call { callee := Callee.builtin Builtin.append, args := #[s, x], argTypes := #[t, t] })
    (base : Nat) (e : TypeId) (i : TypeInfo) (z : Value) (bytes : Nat) (ht : P.underlying t = some (.slice e)) (hi : P.info? e = some i) (hz : i.zero = some z)
    (hsize : i.size = 1) (hby : i.bytes = bytes) (hzs : z.cells.size = 1) (v : Value) (n : Nat) (xs : List Bool) (hs : a.eval s = v) (hown : w.ownsRow base e 1 v n (xs.map Value.bool))
    (ao : Option Addr) (m c : Nat) (ys : List Bool) (hxe : a.eval x = .slice ao m c) (hx : RowB w ao m c ys) (h63 : n + m ≤ maxLen) (hbytes : (n + m) * bytes ≤ 140737488355328) (hbase : base ≤ w.heap.size)
    (hK : ∀ ao' c' w', w'.ownsRow base e 1 (.slice ao' (n + m) c') (n + m) ((xs ++ ys).map Value.bool) → w.grownBy w' v.ownBlock → K (a.put o.dst (.slice ao' (n + m) c')) w') :
    if Region.wanted o (yielded ops a.tmps) = true then Oper.wp P o a w K Q else E := by
  have hw : Region.wanted o (yielded ops a.tmps) = true := by simp [Region.wanted, hg]
  rw [if_pos hw]
  obtain ⟨v', w', hrun, r1, r2⟩ := run_append_bools (P := P) w base t o.type e i z bytes ht hi hz hsize hby hzs v n xs hown ao m c ys hx h63 hbytes hbase
  obtain ⟨ao', c', rfl, _⟩ := RowB.ofOwned r1
  unfold Oper.wp
  simp [execOp, hop, resolve, invoke, builtin, hs, hxe, hrun, Result.andThen]
  exact hK ao' c' w' r1 r2
/-- at a list of operations -/
theorem wpList_append_bools {P : Program} (w : World) {ops : Array Oper} {rest : List Oper} {o : Oper} {a : Act} {Q : Exit → Act → World → Prop}
    (hg : o.guard = none) (s x : Operand) (t : TypeId) (hop : o.op = Op.call { callee := Callee.builtin Builtin.append, args := #[s, x], argTypes := #[t, t] })
    (base : Nat) (e : TypeId) (i : TypeInfo) (z : Value) (bytes : Nat) (ht : P.underlying t = some (.slice e)) (hi : P.info? e = some i) (hz : i.zero = some z)
    (hsize : i.size = 1) (hby : i.bytes = bytes) (hzs : z.cells.size = 1) (v : Value) (n : Nat) (xs : List Bool) (hs : a.eval s = v) (hown : w.ownsRow base e 1 v n (xs.map Value.bool))
    (ao : Option Addr) (m c : Nat) (ys : List Bool) (hxe : a.eval x = .slice ao m c) (hx : RowB w ao m c ys) (h63 : n + m ≤ maxLen) (hbytes : (n + m) * bytes ≤ 140737488355328) (hbase : base ≤ w.heap.size)
    (hK : ∀ ao' c' w', w'.ownsRow base e 1 (.slice ao' (n + m) c') (n + m) ((xs ++ ys).map Value.bool) → w.grownBy w' v.ownBlock → wpList P ops Q rest (a.put o.dst (.slice ao' (n + m) c')) w') :
    wpList P ops Q (o :: rest) a w := by
  refine wpList_plain hg fun K hK' => ?_
  obtain ⟨v', w', hrun, r1, r2⟩ := run_append_bools (P := P) w base t o.type e i z bytes ht hi hz hsize hby hzs v n xs hown ao m c ys hx h63 hbytes hbase
  obtain ⟨ao', c', rfl, _⟩ := RowB.ofOwned r1
  unfold Oper.wp
  simp [execOp, hop, resolve, invoke, builtin, hs, hxe, hrun, Result.andThen]
  exact hK' _ _ (hK ao' c' w' r1 r2)
theorem infoB : (Try.prog.info? 4).map (fun i => (i.zero, i.size, i.bytes)) = some (some (.bool false), 1, 1) := by kernel_rfl
/-- an empty row that was just made -/
theorem owns_empty (w : World) (e : TypeId) (base : Nat) (hb : base ≤ w.heap.size) : (w.alloc (.cells #[] e)).ownsRow base e 1 (.slice (some ⟨w.heap.size, 0, none⟩) 0 0) 0 ([] : List Value) :=
  ⟨rfl, .inr ⟨w.heap.size, 0, #[], rfl, hb, heap_alloc_new w _, Nat.le_refl _, by simp [maxLen], rfl, rfl⟩⟩

set_option maxRecDepth 100000 in
set_option maxHeartbeats 400000 in
theorem clone_any (vs : List Bool) (ao : Option Addr) (n c : Nat) (w : World) (hR : RowB w ao n c vs) (hn : 0 < n ∧ n ≤ 4096) :
    Calls Try.prog 69 #[.slice ao n c] w fun e w' => ∃ ao' c', e = .returned (.slice ao' n c') ∧ RowB w' ao' n c' vs ∧ (∀ b off, ao' = some ⟨b, off, none⟩ → w.heap.size ≤ b) ∧ Below w.heap.size w w' := by
  obtain ⟨b, off, rfl, hlt, hcell⟩ := hR.spot hn.1
  have hc := hR.cap
  unfold maxLen at hc
  have HR := hide (hR.alloc (.cells #[] 4))
  have HO := hide (owns_empty w 4 w.heap.size (Nat.le_refl _))
  obtain ⟨i0, hi, hz0, hz1, hz2⟩ := info_parts infoB
  have hEq : ∀ w : World, (binOp BinOp.eql 26 (Value.slice (some ⟨b, off, none⟩) n c) (Value.slice none 0 0)).run Try.prog w = .ok (.bool false) w := fun w => by kernel_rfl
  clear hR hcell
  go_enter Try.func69, Try.ntmps69
  go_wp2_with (at_builtin; refine wpList_append_bools _ rfl (.tmp 5) (.tmp 6) 26 rfl w.heap.size 4 i0 (.bool false) 1 Try.underlying26 hi hz0 hz1 hz2 rfl (.slice (some ⟨w.heap.size, 0, none⟩) 0 0) 0 [] rfl HO.out _ n _ vs rfl HR.out ?c1 ?c2 ?c3 ?_)
  case c1 => unfold maxLen; omega
  case c2 => omega
  case c3 => simp
  intro ao4 d4 w4 hown4 hgrow4
  have HB := hide (((Below.refl w.heap.size w).alloc (Nat.le_refl _) (.cells #[] 4)).grown hgrow4 (by simp) (fun k hk => by cases hk; exact Nat.le_refl _))
  clear hgrow4
  obtain ⟨ao5, c5, e5, HR5⟩ := RowB.ofOwned hown4
  cases e5
  replace HR5 := hide HR5
  have HNW : Hid (∀ b off, ao4 = some ⟨b, off, none⟩ → w.heap.size ≤ b) := by
    intro b off e
    subst e
    rcases hown4.2 with ⟨h, _⟩ | ⟨g', cap', cur, h, hb, _⟩
    · simp at h
    · simp only [Value.slice.injEq, Option.some.injEq, Addr.mk.injEq, and_true] at h
      omega
  clear hown4 HO HR
  go_wp2
  go_ret
  exact ⟨_, _, rfl, HR5.out, HNW.out, HB.out⟩
end Go.Proofs.Ytphahkjjmomjcaa

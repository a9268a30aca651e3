/- Rows of structs: of the call's own, and such that are read; 'append(v, x...)' of them. -/
import Derived.Test.YtfkabmgbcdoijaaShapes

import Derived.Test.YtfkabmgbcdoijaaRowLaws

import Derived.WalkKit

namespace Go.Proofs.Ytfkabmgbcdoijaa

open Go.RowKit

set_option linter.unusedVariables false

/-- lists of so many cells each, one for each value -/
def Chunks {α : Type} (R : List Value → α → Prop) (size : Nat) (css : List (List Value)) (vs : List α) : Prop :=
  css.length = vs.length ∧ ∀ i (h : i < css.length) (h' : i < vs.length), css[i].length = size ∧ (∀ u ∈ css[i], u.oneCell' = true) ∧ R css[i] vs[i]
theorem Chunks.nil {α : Type} (R : List Value → α → Prop) (size : Nat) : Chunks R size [] [] := ⟨rfl, fun i h => by simp at h⟩
theorem Chunks.mem {α : Type} {R : List Value → α → Prop} {size : Nat} {css : List (List Value)} {vs : List α} (h : Chunks R size css vs) : ∀ cs ∈ css, cs.length = size ∧ ∀ u ∈ cs, u.oneCell' = true := by
  intro cs hc
  obtain ⟨i, hi, rfl⟩ := List.getElem_of_mem hc
  have := h.2 i hi (by rw [← h.1]; exact hi)
  exact ⟨this.1, this.2.1⟩
theorem flatten_len {size : Nat} : ∀ (css : List (List Value)), (∀ cs ∈ css, cs.length = size) → css.flatten.length = css.length * size
  | [], _ => by simp
  | cs :: css, h => by
    rw [List.flatten_cons, List.length_append, h cs (by simp), flatten_len css (fun x hx => h x (by simp [hx])), List.length_cons, Nat.add_mul]
    omega
theorem flatten_get {size : Nat} : ∀ (css : List (List Value)), (∀ cs ∈ css, cs.length = size) → ∀ i (hi : i < css.length) j, j < size → css.flatten[i * size + j]? = css[i][j]?
  | [], _, i, hi, _, _ => by simp at hi
  | cs :: css, h, 0, _, j, hj => by
    have h0 := h cs (by simp)
    rw [List.flatten_cons, Nat.zero_mul, Nat.zero_add, List.getElem?_append_left (by omega)]
    rfl
  | cs :: css, h, i + 1, hi, j, hj => by
    have h0 := h cs (by simp)
    rw [List.flatten_cons, List.getElem?_append_right (by rw [h0, Nat.add_mul]; omega), h0, show (i + 1) * size + j - size = i * size + j by rw [Nat.add_mul]; omega,
      flatten_get css (fun x hx => h x (by simp [hx])) i (by simpa using hi) j hj]
    rfl
theorem Chunks.append {α : Type} {R : List Value → α → Prop} {size : Nat} {c1 c2 : List (List Value)} {v1 v2 : List α} (h1 : Chunks R size c1 v1) (h2 : Chunks R size c2 v2) : Chunks R size (c1 ++ c2) (v1 ++ v2) := by
  refine ⟨by rw [List.length_append, List.length_append, h1.1, h2.1], fun i h h' => ?_⟩
  by_cases hi : i < c1.length
  · have hi' : i < v1.length := by rw [← h1.1]; exact hi
    simp only [List.getElem_append_left hi, List.getElem_append_left hi']
    exact h1.2 i hi hi'
  · have hi' : ¬ i < v1.length := by rw [← h1.1]; exact hi
    simp only [List.getElem_append_right (Nat.le_of_not_lt hi), List.getElem_append_right (Nat.le_of_not_lt hi'), h1.1]
    exact h2.2 _ _ _
theorem Chunks.mono {α : Type} {R R' : List Value → α → Prop} {size : Nat} {css : List (List Value)} {vs : List α} (h : Chunks R size css vs) (hR : ∀ cs v, R cs v → R' cs v) : Chunks R' size css vs :=
  ⟨h.1, fun i hi hi' => ⟨(h.2 i hi hi').1, (h.2 i hi hi').2.1, hR _ _ (h.2 i hi hi').2.2⟩⟩

/-- a row of structs of the call's own -/
def OwnRows {α : Type} (R : List Value → α → Prop) (e : TypeId) (size base : Nat) (w : World) (v : Value) (vs : List α) : Prop :=
  ∃ css, Chunks R size css vs ∧ w.ownsRow base e size v vs.length css.flatten
theorem OwnRows.none {α : Type} (R : List Value → α → Prop) (e : TypeId) (size base : Nat) (w : World) : OwnRows R e size base w (.slice none 0 0) [] := ⟨[], Chunks.nil R size, World.ownsRow_nil _ _ _ _⟩
theorem OwnRows.below {α : Type} {R R' : List Value → α → Prop} {e : TypeId} {size base : Nat} {w w' : World} {v : Value} {vs : List α} (h : OwnRows R e size base w v vs) (hb : Below w.heap.size w w') (hR : ∀ cs v, R cs v → R' cs v) : OwnRows R' e size base w' v vs := by
  obtain ⟨css, hc, ho⟩ := h
  exact ⟨css, hc.mono hR, owns_below ho hb⟩
theorem OwnRows.rows {α : Type} {R : List Value → α → Prop} {e : TypeId} {size base : Nat} {w : World} {v : Value} {vs : List α} (h : OwnRows R e size base w v vs) (hs : 0 < size) : ∃ ao c, v = .slice ao vs.length c ∧ RowsIn R size w ao vs.length c vs := by
  obtain ⟨css, hc, ho⟩ := h
  have hlen := fun cs hm => (hc.mem cs hm).1
  rcases ho.2 with ⟨rfl, h0⟩ | ⟨g, cap, cur, rfl, hb, hg, hnc, hcm, hcs, htk⟩
  · have : vs = [] := List.eq_nil_of_length_eq_zero h0
    subst this
    exact ⟨Option.none, 0, rfl, rfl, fun _ => ⟨rfl, rfl⟩, by simp [maxLen], fun i hi => by simp at hi⟩
  · have hlt : g < w.heap.size := by
      rcases Nat.lt_or_ge g w.heap.size with h | h
      · exact h
      · rw [Array.getElem?_eq_none h] at hg; cases hg
    refine ⟨_, _, rfl, rfl, fun h => (by cases h), ⟨hnc, hcm⟩, fun i hi => ⟨g, 0, css[i]'(by rw [hc.1]; exact hi), rfl, hlt, (hc.2 i _ hi).1, fun j hj => ?_, (hc.2 i _ hi).2.2⟩⟩
    have hi' : i < css.length := by rw [hc.1]; exact hi
    have hlt2 : i * size + j < vs.length * size := by
      have : (i + 1) * size ≤ vs.length * size := Nat.mul_le_mul_right _ hi
      rw [Nat.add_mul] at this
      omega
    rw [Nat.zero_add, ho.cellAt (i * size + j) hlt2, flatten_get css hlen i hi' j hj]
/-- a row that is read, as its cells -/
theorem RowsIn.chunks {α : Type} {R : List Value → α → Prop} {size : Nat} {w : World} {ao : Option Addr} {n c : Nat} {vs : List α} (h : RowsIn R size w ao n c vs) (hs : 0 < size) (h1 : ∀ cs v, R cs v → ∀ u ∈ cs, u.oneCell' = true) :
    ∃ css, Chunks R size css vs ∧ ∀ j u, css.flatten[j]? = some u → ∃ b off, ao = some ⟨b, off, none⟩ ∧ w.cell? ⟨b, off + j, none⟩ = some u := by
  have hv : ∀ i : Fin vs.length, ∃ cs : List Value, ∃ b off, ao = some ⟨b, off, none⟩ ∧ cs.length = size ∧ (∀ j, j < size → w.cell? ⟨b, off + (i * size + j), none⟩ = cs[j]?) ∧ R cs vs[i] := fun i => by
    obtain ⟨b, off, cs, e, hlt, hl, hc, hr⟩ := h.row i i.2
    exact ⟨cs, b, off, e, hl, hc, hr⟩
  have hV := fun i : Fin vs.length => Classical.choose_spec (hv i)
  have hch : Chunks R size (List.ofFn fun i => Classical.choose (hv i)) vs := by
    refine ⟨by simp, fun i hi hi' => ?_⟩
    obtain ⟨b, off, _, hl, _, hr⟩ := hV ⟨i, hi'⟩
    simp only [List.getElem_ofFn]
    exact ⟨hl, h1 _ _ hr, hr⟩
  refine ⟨_, hch, fun j u hu => ?_⟩
  have hlen := fun cs hm => (hch.mem cs hm).1
  have hj : j < vs.length * size := by
    have := (List.getElem?_eq_some_iff.1 hu).1
    rw [flatten_len _ hlen] at this
    simpa using this
  have hi : j / size < vs.length := Nat.div_lt_of_lt_mul (by rw [Nat.mul_comm]; exact hj)
  have hjs : j % size < size := Nat.mod_lt _ hs
  have hjj : j = j / size * size + j % size := by rw [Nat.mul_comm]; exact (Nat.div_add_mod j size).symm
  obtain ⟨b, off, e, hl, hc, _⟩ := hV ⟨j / size, hi⟩
  refine ⟨b, off, e, ?_⟩
  have h2 := hc (j % size) hjs
  simp only [← hjj] at h2
  rw [h2, ← hu]
  conv => rhs; rw [hjj]
  rw [flatten_get _ hlen (j / size) (by simpa using hi) (j % size) hjs]
  simp

theorem run_append_structs {α : Type} {R : List Value → α → Prop} {P : Program} (w : World) (base : Nat) (t ty e : TypeId) (i : TypeInfo) (z : Value) (size bytes : Nat) (ht : P.underlying t = some (.slice e)) (hi : P.info? e = some i) (hz : i.zero = some z)
    (hsize : i.size = size) (hby : i.bytes = bytes) (hzs : z.cells.size = size) (hs : 0 < size) (h1 : ∀ cs v, R cs v → ∀ u ∈ cs, u.oneCell' = true) (v : Value) (n : Nat) (vs : List α) (hown : OwnRows R e size base w v vs) (hn : vs.length = n)
    (ao : Option Addr) (m c : Nat) (ys : List α) (hx : RowsIn R size w ao m c ys) (h63 : n + m ≤ maxLen) (hbytes : (n + m) * bytes ≤ 140737488355328) (hbase : base ≤ w.heap.size) :
    ∃ ao' c' w', (Builtin.append_ #[t, t] ty #[v, .slice ao m c]).run P w = .ok (.slice ao' (n + m) c') w' ∧ OwnRows R e size base w' (.slice ao' (n + m) c') (vs ++ ys) ∧ w.grownBy w' v.ownBlock := by
  subst hn
  obtain ⟨css, hc, ho⟩ := hown
  obtain ⟨dss, hd, hcell⟩ := hx.chunks hs h1
  have hlen := fun cs hm => (hd.mem cs hm).1
  have hyl : ys.length = m := hx.len
  have key : ∃ v' w', (Builtin.append_ #[t, t] ty #[v, .slice ao m c]).run P w = .ok v' w' ∧ w'.ownsRow base e size v' (vs.length + m) (css.flatten ++ dss.flatten) ∧ w.grownBy w' v.ownBlock := by
    cases ao with
    | none =>
      obtain ⟨rfl, rfl⟩ := hx.nil rfl
      have hy : ys = [] := List.eq_nil_of_length_eq_zero hyl
      subst hy
      have hdn : dss = [] := List.eq_nil_of_length_eq_zero hd.1
      subst hdn
      exact ⟨v, w, run_append_owned_none (P := P) w base t ty e i size ht hi v vs.length _ ho, by simpa using ho, World.grownBy.refl _ _⟩
    | some a =>
      have hl : dss.flatten.length = m * size := by rw [flatten_len _ hlen, hd.1, hyl]
      obtain ⟨v', w', hr, h2, h3, _⟩ := run_append_own (P := P) w base t ty e i z size bytes ht hi hz hsize hby hzs hs v vs.length _ ho a m c dss.flatten hl (fun j u hu => by
          obtain ⟨b, off, e2, hcl⟩ := hcell j u hu
          cases e2
          rw [Addr.add_lit]
          exact hcl) (fun u hu => by
          obtain ⟨cs, hm, hu⟩ := List.mem_flatten.1 hu
          exact (hd.mem cs hm).2 u hu) h63 hbytes hbase
      exact ⟨v', w', hr, h2, h3⟩
  obtain ⟨v', w', hr, h2, h3⟩ := key
  have hform : ∃ ao' c', v' = .slice ao' (vs.length + m) c' := by
    rcases h2.2 with ⟨rfl, h0⟩ | ⟨g, cap, cur, rfl, _⟩
    · exact ⟨none, 0, by rw [h0]⟩
    · exact ⟨_, _, rfl⟩
  obtain ⟨ao', c', rfl⟩ := hform
  refine ⟨ao', c', w', hr, ⟨css ++ dss, hc.append hd, ?_⟩, h3⟩
  rw [List.flatten_append, List.length_append, hyl]
  exact h2
/-- at a list of operations -/
theorem wpList_append_structs {α : Type} {R : List Value → α → Prop} {P : Program} (w : World) {ops : Array Oper} {rest : List Oper} {o : Oper} {a : Act} {Q : Exit → Act → World → Prop}
    (hg : o.guard = none) (s x : Operand) (t : TypeId) (hop : o.op = Op.call { callee := Callee.builtin Builtin.append, args := #[s, x], argTypes := #[t, t] })
    (base : Nat) (e : TypeId) (i : TypeInfo) (z : Value) (size bytes : Nat) (ht : P.underlying t = some (.slice e)) (hi : P.info? e = some i) (hz : i.zero = some z)
    (hsize : i.size = size) (hby : i.bytes = bytes) (hzs : z.cells.size = size) (hsz : 0 < size) (h1 : ∀ cs v, R cs v → ∀ u ∈ cs, u.oneCell' = true) (v : Value) (n : Nat) (vs : List α) (hs : a.eval s = v) (hown : OwnRows R e size base w v vs) (hn : vs.length = n)
    (ao : Option Addr) (m c : Nat) (ys : List α) (hxe : a.eval x = .slice ao m c) (hx : RowsIn R size w ao m c ys) (h63 : n + m ≤ maxLen) (hbytes : (n + m) * bytes ≤ 140737488355328) (hbase : base ≤ w.heap.size)
    (hK : ∀ ao' c' w', OwnRows R e size base w' (.slice ao' (n + m) c') (vs ++ ys) → w.grownBy w' v.ownBlock → wpList P ops Q rest (a.put o.dst (.slice ao' (n + m) c')) w') :
    wpList P ops Q (o :: rest) a w := by
  refine wpList_plain hg fun K hK' => ?_
  obtain ⟨ao', c', w', hrun, r1, r2⟩ := run_append_structs (P := P) w base t o.type e i z size bytes ht hi hz hsize hby hzs hsz h1 v n vs hown hn ao m c ys hx h63 hbytes hbase
  unfold Oper.wp
  simp [execOp, hop, resolve, invoke, builtin, hs, hxe, hrun, Result.andThen]
  exact hK' _ _ (hK ao' c' w' r1 r2)
/-- as a step of a region that draws its order -/
theorem step_append_structs {α : Type} {R : List Value → α → Prop} {P : Program} {ops : Array Oper} {o : Oper} {a : Act} {w : World} {K : Act → World → Prop} {Q : Exit → Act → World → Prop} {E : Prop}
    (hg : o.guard = none) (s x : Operand) (t : TypeId) (hop : o.op = Op.call { callee := Callee.builtin Builtin.append, args := #[s, x], argTypes := #[t, t] })
    (base : Nat) (e : TypeId) (i : TypeInfo) (z : Value) (size bytes : Nat) (ht : P.underlying t = some (.slice e)) (hi : P.info? e = some i) (hz : i.zero = some z)
    (hsize : i.size = size) (hby : i.bytes = bytes) (hzs : z.cells.size = size) (hsz : 0 < size) (h1 : ∀ cs v, R cs v → ∀ u ∈ cs, u.oneCell' = true) (v : Value) (n : Nat) (vs : List α) (hs : a.eval s = v) (hown : OwnRows R e size base w v vs) (hn : vs.length = n)
    (ao : Option Addr) (m c : Nat) (ys : List α) (hxe : a.eval x = .slice ao m c) (hx : RowsIn R size w ao m c ys) (h63 : n + m ≤ maxLen) (hbytes : (n + m) * bytes ≤ 140737488355328) (hbase : base ≤ w.heap.size)
    (hK : ∀ ao' c' w', OwnRows R e size base w' (.slice ao' (n + m) c') (vs ++ ys) → w.grownBy w' v.ownBlock → K (a.put o.dst (.slice ao' (n + m) c')) w') :
    if Region.wanted o (yielded ops a.tmps) = true then Oper.wp P o a w K Q else E := by
  have hw : Region.wanted o (yielded ops a.tmps) = true := by simp [Region.wanted, hg]
  rw [if_pos hw]
  obtain ⟨ao', c', w', hrun, r1, r2⟩ := run_append_structs (P := P) w base t o.type e i z size bytes ht hi hz hsize hby hzs hsz h1 v n vs hown hn ao m c ys hx h63 hbytes hbase
  unfold Oper.wp
  simp [execOp, hop, resolve, invoke, builtin, hs, hxe, hrun, Result.andThen]
  exact hK ao' c' w' r1 r2
/-- the row of one struct that was just laid -/
theorem RowsIn.lit {α : Type} {R : List Value → α → Prop} (w : World) (g : Nat) (cs : List Value) (e : TypeId) (size : Nat) (v : α) (hg : g = w.heap.size) (hl : cs.length = size) (hR : R cs v) :
    RowsIn R size (w.alloc (.cells cs.toArray e)) (some ⟨g, 0, none⟩) 1 1 [v] := by
  subst hg
  refine ⟨rfl, fun h => (by cases h), by simp [maxLen], fun i hi => ?_⟩
  have h0 : i = 0 := by simp at hi; exact hi
  subst h0
  refine ⟨w.heap.size, 0, cs, rfl, by simp, hl, fun j hj => ?_, hR⟩
  rw [Nat.zero_mul, Nat.zero_add, Nat.zero_add, cell_of_row _ w.heap.size j _ e _ (heap_alloc_new w _)]
  simp
end Go.Proofs.Ytfkabmgbcdoijaa

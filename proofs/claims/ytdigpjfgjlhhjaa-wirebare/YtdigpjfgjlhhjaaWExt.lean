/- Values made by the reading: they lie in new blocks of known types; what keeps them. -/
import Derived.Test.YtdigpjfgjlhhjaaWRd2

import Derived.Test.YtdigpjfgjlhhjaaWMore

namespace Go.Proofs.Ytdigpjfgjlhhjaa

open Go.ChangeShapes Go.WideShapes Go.ChangeAt Go.RowKit

set_option linter.unusedVariables false

/-- what can be read of u can be read of u' -/
structure Ext (u u' : World) : Prop where
  size : u.heap.size ≤ u'.heap.size
  cell : ∀ a v, u.cell? a = some v → u'.cell? a = some v
theorem Ext.refl (u : World) : Ext u u := ⟨Nat.le_refl _, fun _ _ h => h⟩
theorem Ext.trans {a b c : World} (h : Ext a b) (k : Ext b c) : Ext a c := ⟨Nat.le_trans h.size k.size, fun x v hx => k.cell x v (h.cell x v hx)⟩
theorem RowIn.ext {k : IntKind} {u u' : World} {ao : Option Addr} {n c : Nat} {zs : List Int} (h : RowIn k u ao n c zs) (e : Ext u u') : RowIn k u' ao n c zs :=
  ⟨h.len, h.nil, fun i hi => by
    obtain ⟨b, off, ea, hlt, hc⟩ := h.cell i hi
    exact ⟨b, off, ea, Nat.lt_of_lt_of_le hlt e.size, e.cell _ _ hc⟩, h.cap⟩
theorem RowsIn.ext {α : Type} {R R' : List Value → α → Prop} {size : Nat} {u u' : World} {ao : Option Addr} {n c : Nat} {vs : List α} (h : RowsIn R size u ao n c vs) (e : Ext u u') (hR : ∀ cs v, R cs v → R' cs v) : RowsIn R' size u' ao n c vs :=
  ⟨h.len, h.nil, h.cap, fun i hi => by
    obtain ⟨b, off, cs, ea, hlt, hl, hc, hr⟩ := h.row i hi
    refine ⟨b, off, cs, ea, Nat.lt_of_lt_of_le hlt e.size, hl, fun j hj => ?_, hR _ _ hr⟩
    have h1 := hc j hj
    rw [List.getElem?_eq_getElem (by omega)] at h1 ⊢
    exact e.cell _ _ h1⟩
theorem VoteC.ext {u u' : World} {cs : List Value} {v : Vt} (h : VoteC u cs v) (e : Ext u u') : VoteC u' cs v := by
  obtain ⟨hw, ao, l, c, ec, hr⟩ := h
  exact ⟨hw, ao, l, c, ec, hr.ext e⟩
theorem ProofC.ext {u u' : World} {cs : List Value} {v : Pf} (h : ProofC u cs v) (e : Ext u u') : ProofC u' cs v := by
  obtain ⟨x, y, ec, h1, h2⟩ := h
  exact ⟨x, y, ec, h1.ext e, h2.ext e⟩
theorem BlockC.ext {u u' : World} {cs : List Value} {v : Bk} (h : BlockC u cs v) (e : Ext u u') : BlockC u' cs v := by
  obtain ⟨hw, ao, l, c, ao2, l2, c2, ec, h1, h2⟩ := h
  exact ⟨hw, ao, l, c, ao2, l2, c2, ec, RowsIn.ext h1 e (fun cs v h => h.ext e), RowsIn.ext h2 e (fun cs v h => h.ext e)⟩
theorem EventC.ext {u u' : World} {cs : List Value} {v : Ev} (h : EventC u cs v) (e : Ext u u') : EventC u' cs v := by
  obtain ⟨hw, x, y, z, ec, h1, h2, h3⟩ := h
  exact ⟨hw, x, y, z, ec, h1.ext e, h2.ext e, h3.ext e⟩

/-- the types of the rows that values hold -/
def tyI (t : TypeId) : Bool := t == 3
def tyA (t : TypeId) : Bool := t == 3 || t == 34 || t == 36
def okObj (p : TypeId → Bool) : Obj → Bool
  | .cells _ t _ => p t
  | _ => false
/-- the blocks from B on, of some types alone -/
def filt (p : TypeId → Bool) (B : Nat) (w : World) : World := { w with heap := w.heap.mapIdx fun k o => if decide (B ≤ k) && okObj p o then o else .cells #[] 0 }
theorem filt_size (p : TypeId → Bool) (B : Nat) (w : World) : (filt p B w).heap.size = w.heap.size := by simp [filt]
theorem filt_cell {p : TypeId → Bool} {B : Nat} {w : World} {a : Addr} {v : Value} : (filt p B w).cell? a = some v ↔ w.cell? a = some v ∧ B ≤ a.block ∧ ∃ C t m, w.heap[a.block]? = some (.cells C t m) ∧ p t = true := by
  unfold World.cell?
  have hg : (filt p B w).heap[a.block]? = (w.heap[a.block]?).map fun o => if decide (B ≤ a.block) && okObj p o then o else .cells #[] 0 := by simp [filt]
  rw [hg]
  cases ho : w.heap[a.block]? with
  | none => simp
  | some o =>
    simp only [Option.map_some]
    by_cases hB : B ≤ a.block
    · cases o with
      | cells C t m =>
        by_cases hp : p t = true
        · simp [okObj, hB, hp]
          exact fun _ _ => ⟨C, t, ⟨rfl, rfl⟩, hp⟩
        · simp [okObj, hp]
      | _ => simp [okObj]
    · simp [hB]
theorem filt_ext (p : TypeId → Bool) (B : Nat) (w : World) : Ext (filt p B w) w := ⟨by rw [filt_size]; exact Nat.le_refl _, fun a v h => (filt_cell.1 h).1⟩
theorem filt_mono {p q : TypeId → Bool} {B B' : Nat} (w : World) (hB : B ≤ B') (hp : ∀ t, p t = true → q t = true) : Ext (filt p B' w) (filt q B w) :=
  ⟨by rw [filt_size, filt_size]; exact Nat.le_refl _, fun a v h => by
    obtain ⟨h1, h2, C, t, m, h3, h4⟩ := filt_cell.1 h
    exact filt_cell.2 ⟨h1, by omega, C, t, m, h3, hp t h4⟩⟩
/-- one block turns, that is none of these -/
theorem filt_block {p : TypeId → Bool} {B : Nat} {w w' : World} (hsz : w.heap.size ≤ w'.heap.size) (h : ∀ k C t m, B ≤ k → w.heap[k]? = some (.cells C t m) → p t = true → w'.heap[k]? = w.heap[k]?) : Ext (filt p B w) (filt p B w') :=
  ⟨by rw [filt_size, filt_size]; exact hsz, fun a v ha => by
    obtain ⟨h1, h2, C, t, m, h3, h4⟩ := filt_cell.1 ha
    have h5 := h a.block C t m h2 h3 h4
    refine filt_cell.2 ⟨?_, h2, C, t, m, h5.trans h3, h4⟩
    unfold World.cell? at h1 ⊢
    rw [h5]
    exact h1⟩
theorem lt_of_get {w : World} {k : Nat} {o : Obj} (h : w.heap[k]? = some o) : k < w.heap.size := by
  rcases Nat.lt_or_ge k w.heap.size with h' | h'
  · exact h'
  · rw [Array.getElem?_eq_none h'] at h; cases h
theorem filt_apart {p : TypeId → Bool} {B r : Nat} {w w' : World} (h : Apart r w w') (hr : r < B) : Ext (filt p B w) (filt p B w') :=
  filt_block h.size fun k C t m hB hk _ => h.block k (lt_of_get hk) (by omega)
theorem filt_below {p : TypeId → Bool} {B : Nat} {w w' : World} (h : Below w.heap.size w w') : Ext (filt p B w) (filt p B w') :=
  filt_block h.size fun k C t m hB hk _ => h.block k (lt_of_get hk)
/-- a row of another type grows -/
theorem filt_grown {p : TypeId → Bool} {B base n size : Nat} {e : TypeId} {v : Value} {xs : List Value} {w w' : World} (hg : w.grownBy w' v.ownBlock) (ho : w.ownsRow base e size v n xs) (he : p e = false) : Ext (filt p B w) (filt p B w') :=
  filt_block hg.size fun k C t m hB hk hp => hg.block k (lt_of_get hk) (fun e' => by
    rcases ho.2 with ⟨rfl, _⟩ | ⟨g, cap, cur, rfl, _, hg', _⟩
    · simp [Value.ownBlock] at e'
    · simp only [Value.ownBlock, Option.some.injEq] at e'
      subst e'
      rw [hk] at hg'
      simp only [Option.some.injEq, Obj.cells.injEq] at hg'
      rw [hg'.2.1, he] at hp
      cases hp)
/-- an owned row of numbers is one of these -/
theorem filt_own {p : TypeId → Bool} {B base e n : Nat} {k : IntKind} {v : Value} {zs : List Int} {w : World} (ho : w.ownsRow base e 1 v n (zs.map (Value.int k))) (hp : p e = true) (hB : B ≤ base) : ∃ ao c, v = .slice ao n c ∧ RowIn k (filt p B w) ao n c zs := by
  obtain ⟨ao, c, rfl, hr⟩ := RowIn.ofOwned ho
  refine ⟨ao, c, rfl, hr.len, hr.nil, fun i hi => ?_, hr.cap⟩
  obtain ⟨b, off, e1, hlt, hc⟩ := hr.cell i hi
  refine ⟨b, off, e1, by rw [filt_size]; exact hlt, filt_cell.2 ⟨hc, ?_⟩⟩
  rcases ho.2 with ⟨h1, h2⟩ | ⟨g, cap, cur, h1, hb, hg', _⟩
  · omega
  · rw [e1] at h1
    simp only [Value.slice.injEq, Option.some.injEq, Addr.mk.injEq] at h1
    obtain ⟨⟨rfl, _⟩, _⟩ := h1
    exact ⟨Nat.le_trans hB hb, _, _, _, hg', hp⟩
/-- an owned row of structs is one of these -/
theorem filt_rows {α : Type} {R : List Value → α → Prop} {p : TypeId → Bool} {B base e size : Nat} {v : Value} {vs : List α} {w : World} (ho : OwnRows R e size base w v vs) (hs : 0 < size) (hp : p e = true) (hB : B ≤ base) : ∃ ao c, v = .slice ao vs.length c ∧ RowsIn R size (filt p B w) ao vs.length c vs := by
  obtain ⟨ao, c, rfl, hr⟩ := ho.rows hs
  refine ⟨ao, c, rfl, hr.len, hr.nil, hr.cap, fun i hi => ?_⟩
  obtain ⟨b, off, cs, e1, hlt, hl, hc, hR⟩ := hr.row i hi
  refine ⟨b, off, cs, e1, by rw [filt_size]; exact hlt, hl, fun j hj => ?_, hR⟩
  have h1 := hc j hj
  rw [List.getElem?_eq_getElem (by omega)] at h1 ⊢
  refine filt_cell.2 ⟨h1, ?_⟩
  obtain ⟨css, _, ho⟩ := ho
  rcases ho.2 with ⟨h1, h2⟩ | ⟨g, cap, cur, h1, hb, hg', _⟩
  · omega
  · rw [e1] at h1
    simp only [Value.slice.injEq, Option.some.injEq, Addr.mk.injEq] at h1
    obtain ⟨⟨rfl, _⟩, _⟩ := h1
    exact ⟨Nat.le_trans hB hb, _, _, _, hg', hp⟩

/-- an owned row is kept where another block turns -/
theorem owns_apart {w w' : World} {base e size n q : Nat} {v : Value} {xs : List Value} (h : w.ownsRow base e size v n xs) (k : Apart q w w') (hq : q < base) : w'.ownsRow base e size v n xs :=
  h.kept (row := some q) ⟨k.os, k.tape, k.output, k.size, fun i hi hne => k.block i hi (fun e => hne (by rw [e]))⟩ (.inr fun e => by
    have := (h.lt q e).1
    omega)
theorem OwnRows.apart {α : Type} {R R' : List Value → α → Prop} {e : TypeId} {size base q : Nat} {w w' : World} {v : Value} {vs : List α} (h : OwnRows R e size base w v vs) (k : Apart q w w') (hq : q < base) (hR : ∀ cs v, R cs v → R' cs v) : OwnRows R' e size base w' v vs := by
  obtain ⟨css, hc, ho⟩ := h
  exact ⟨css, hc.mono hR, owns_apart ho k hq⟩
theorem OwnRows.mono {α : Type} {R R' : List Value → α → Prop} {e : TypeId} {size base : Nat} {w : World} {v : Value} {vs : List α} (h : OwnRows R e size base w v vs) (hR : ∀ cs v, R cs v → R' cs v) : OwnRows R' e size base w v vs := by
  obtain ⟨css, hc, ho⟩ := h
  exact ⟨css, hc.mono hR, ho⟩
/-- nothing that was there at the beginning turns but the reader -/
theorem Apart.keep {r : Nat} {a w w' : World} (H : Apart r a w) (h : Below a.heap.size w w') : Apart r a w' :=
  ⟨h.os.trans H.os, h.tape.trans H.tape, h.output.trans H.output, by rw [hole_size, hole_size]; exact Nat.le_trans H.size h.size, fun i hi => by
    by_cases e : i = r
    · subst e
      have h1 : i < w'.heap.size := Nat.lt_of_lt_of_le hi (Nat.le_trans H.size h.size)
      simp [hole, hi, h1]
    · rw [hole_get _ _ _ e, hole_get _ _ _ e, h.block i hi]
      exact H.block i hi e⟩
theorem Rd.keep {r : Nat} {we w w' : World} {ab : Option Addr} {n c : Nat} {bs : List Int} {s s0 : St} (H : Rd r w ab n c bs s) (E : Rd r we ab n c bs s0) (h : Below we.heap.size w w') : Rd r w' ab n c bs s := by
  refine ⟨(h.block r E.lt).trans H.obj, ⟨H.row.len, H.row.nil, fun i hi => ?_, H.row.cap⟩, H.b8, H.pos⟩
  obtain ⟨b, off, e, hlt, hc⟩ := H.row.cell i hi
  obtain ⟨b', off', e', hlt', _⟩ := E.row.cell i hi
  rw [e] at e'
  cases e'
  obtain ⟨h1, h2⟩ := hole_cell hc
  rw [hole_size] at hlt hlt'
  refine ⟨b, off, e, by rw [hole_size]; exact Nat.lt_of_lt_of_le hlt h.size, ?_⟩
  unfold World.cell? at hc ⊢
  rw [hole_get _ _ _ h1] at hc ⊢
  rw [h.block b hlt']
  exact hc
end Go.Proofs.Ytdigpjfgjlhhjaa

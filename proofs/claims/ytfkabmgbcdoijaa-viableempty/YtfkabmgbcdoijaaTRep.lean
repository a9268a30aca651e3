/- A tree of blocks in memory: a struct with a row of blocks, each with a row of kids of its own, and a map from roots to places. -/
import Derived.Test.YtfkabmgbcdoijaaObjs

import Derived.Test.YtfkabmgbcdoijaaStructRows

import Derived.Maps.Own

import Derived.Maps.OwnSet

import Derived.Maps.Views

import Derived.Maps.AppendAt

namespace Go.Proofs.Ytfkabmgbcdoijaa

open Go.ChangeShapes Go.WideShapes Go.ChangeAt Go.RowKit Go.Maps

set_option linter.unusedVariables false

/-! ### worlds in which some blocks alone turn -/
structure Turn (F : Nat → Prop) (w w' : World) : Prop where
  os : w'.os = w.os
  tape : w'.tape = w.tape
  output : w'.output = w.output
  size : w.heap.size ≤ w'.heap.size
  block : ∀ k, k < w.heap.size → ¬ F k → w'.heap[k]? = w.heap[k]?
theorem Turn.refl (F : Nat → Prop) (w : World) : Turn F w w := ⟨rfl, rfl, rfl, Nat.le_refl _, fun _ _ _ => rfl⟩
theorem Turn.trans {F G : Nat → Prop} {a b c : World} (h : Turn F a b) (k : Turn G b c) (hG : ∀ i, G i → F i ∨ a.heap.size ≤ i) : Turn F a c :=
  ⟨k.os.trans h.os, k.tape.trans h.tape, k.output.trans h.output, Nat.le_trans h.size k.size, fun i hi hF => (k.block i (Nat.lt_of_lt_of_le hi h.size) (fun hg => by
    rcases hG i hg with h1 | h1
    · exact hF h1
    · omega)).trans (h.block i hi hF)⟩
theorem Turn.mono {F G : Nat → Prop} {a b : World} (h : Turn F a b) (hG : ∀ i, F i → G i) : Turn G a b := ⟨h.os, h.tape, h.output, h.size, fun i hi hF => h.block i hi (fun hf => hF (hG i hf))⟩
theorem Turn.below {F : Nat → Prop} {w w' : World} {B : Nat} (h : Turn F w w') (hB : B ≤ w.heap.size) (hF : ∀ i, F i → B ≤ i) : Below B w w' := ⟨h.os, h.tape, h.output, h.size, fun k hk => h.block k (by omega) (fun hf => by have := hF k hf; omega)⟩
theorem Turn.of {F : Nat → Prop} {w w' : World} (h : Below w.heap.size w w') : Turn F w w' := ⟨h.os, h.tape, h.output, h.size, fun k hk _ => h.block k hk⟩
theorem Turn.grown {w w' : World} {row : Option Nat} (h : w.grownBy w' row) : Turn (fun k => row = some k) w w' := ⟨h.os, h.tape, h.output, h.size, fun k hk hr => h.block k hk (fun e => hr e.symm)⟩
theorem Turn.apart {r : Nat} {w w' : World} (h : Apart r w w') : Turn (fun k => k = r) w w' := ⟨h.os, h.tape, h.output, h.size, fun k hk hr => h.block k hk hr⟩
theorem Turn.drew {F : Nat → Prop} {a w : World} (h : Turn F a w) : Turn F a w.drew := ⟨h.os, h.tape, h.output, h.size, h.block⟩
theorem OAt.turn {w w' : World} {b : Nat} {o : Obj} {F : Nat → Prop} (h : OAt w b o) (k : Turn F w w') (hF : ¬ F b) : OAt w' b o := ⟨Nat.lt_of_lt_of_le h.lt k.size, (k.block b h.lt hF).trans h.at_⟩
theorem owns_turn {w w' : World} {base e size n : Nat} {v : Value} {xs : List Value} {F : Nat → Prop} (h : w.ownsRow base e size v n xs) (k : Turn F w w') (hF : ∀ g, v.ownBlock = some g → ¬ F g) : w'.ownsRow base e size v n xs := by
  refine ⟨h.1, ?_⟩
  rcases h.2 with ⟨rfl, h0⟩ | ⟨g, cap, cur, rfl, h1, h2, h3⟩
  · exact .inl ⟨rfl, h0⟩
  · exact .inr ⟨g, cap, cur, rfl, h1, (k.block g (OAt.of h2).lt (hF g rfl)).trans h2, h3⟩

/-! ### the map from roots to places -/
theorem keyU : Keyed Try.prog 29 := int_keyed Try.underlying29
/-- block b is a map of at most n entries, which has f -/
def MapP (w : World) (b n : Nat) (f : Int → Option Nat) : Prop :=
  ∃ D : DataW Unit, w.ownsMap Try.prog 29 (plainElem Try.prog 3) b n D ∧ ∀ r : Int, Maps.has D (.int .u64 r) = (f r).isSome ∧ D.atKey (.int .u64 r) (.lit (.int .i64 0)) = .lit (.int .i64 ((f r).getD 0 : Nat))
theorem MapP.lt {w : World} {b n : Nat} {f : Int → Option Nat} (h : MapP w b n f) : b < w.heap.size := by
  obtain ⟨D, h, _⟩ := h
  exact h.lt
theorem MapP.of {w w' : World} {b n : Nat} {f : Int → Option Nat} (h : MapP w b n f) (e : w'.heap[b]? = w.heap[b]?) : MapP w' b n f := by
  obtain ⟨D, ⟨es, clock, hb, F, hs, hD⟩, hf⟩ := h
  exact ⟨D, ⟨es, clock, e.trans hb, F, hs, hD⟩, hf⟩
theorem MapP.notCells {w : World} {b n : Nat} {f : Int → Option Nat} (h : MapP w b n f) {C : Array Value} {t : TypeId} {m : Nat × Nat} (hc : w.heap[b]? = some (.cells C t m)) : False := by
  obtain ⟨D, ⟨es, clock, hb, _⟩, _⟩ := h
  rw [hc] at hb
  cases hb
theorem MapP.congr {w : World} {b n : Nat} {f g : Int → Option Nat} (h : MapP w b n f) (e : ∀ r, f r = g r) : MapP w b n g := by
  obtain ⟨D, hD, hf⟩ := h
  exact ⟨D, hD, fun r => by rw [← e r]; exact hf r⟩
theorem MapP.new (w : World) : MapP (w.alloc (.map #[] 0)) w.heap.size 0 (fun _ => none) :=
  ⟨.map [], World.ownsMap_made _ _ _ _, fun r => ⟨rfl, rfl⟩⟩
theorem MapP.look {w : World} {b n : Nat} {f : Int → Option Nat} (h : MapP w b n f) (r : Int) (hr : 0 ≤ r ∧ r ≤ 18446744073709551615) :
    (Instr.lookup 32 (.map (some b)) (.int .u64 r) true).run Try.prog w = .ok (.tuple #[.int .i64 ((f r).getD 0 : Nat), .bool (f r).isSome]) w := by
  obtain ⟨D, hD, hf⟩ := h
  obtain ⟨v, ps, hrun, hv⟩ := hD.look_ok keyU Try.underlying32 (z := .int .i64 0) (by kernel_rfl) (zd := .lit (.int .i64 0)) (plainElem_int Try.underlying3 (by decide)) (keyOf_int_mk Try.underlying29 (a := r) (by simp [Lit.wf, IntKind.min, IntKind.max, IntKind.signed, IntKind.bits]; omega))
  rw [(hf r).2] at hv
  obtain ⟨c, rfl, hc, _⟩ := plainElem_int_inv Try.underlying3 hv
  simp at hc
  rw [hrun, (hf r).1, hc.1]
theorem MapP.look1 {w : World} {b n : Nat} {f : Int → Option Nat} (h : MapP w b n f) (r : Int) (hr : 0 ≤ r ∧ r ≤ 18446744073709551615) :
    (Instr.lookup 32 (.map (some b)) (.int .u64 r) false).run Try.prog w = .ok (.int .i64 ((f r).getD 0 : Nat)) w := by
  obtain ⟨D, hD, hf⟩ := h
  obtain ⟨c, hrun, hc, _⟩ := hD.lookup_int keyU Try.underlying32 Try.underlying3 (by kernel_rfl) (keyOf_int_mk Try.underlying29 (a := r) (by simp [Lit.wf, IntKind.min, IntKind.max, IntKind.signed, IntKind.bits]; omega))
  rw [(hf r).2] at hc
  simp at hc
  rw [hrun, hc]
theorem MapP.put {w : World} {b n : Nat} {f : Int → Option Nat} (h : MapP w b n f) (r : Int) (i : Nat) (hr : 0 ≤ r ∧ r ≤ 18446744073709551615) (hi : i ≤ 4294967296) (hn : n < maxLen) :
    ∃ w', (Instr.mapUpdate 32 (.map (some b)) (.int .u64 r) (.int .i64 (i : Int))).run Try.prog w = .ok () w' ∧ MapP w' b (n + 1) (fun x => if x = r then some i else f x) ∧ w.grownBy w' (some b) := by
  obtain ⟨D, hD, hf⟩ := h
  obtain ⟨w', h1, h2, h3⟩ := hD.update keyU Try.underlying32 hn (keyOf_int_mk Try.underlying29 (a := r) (by simp [Lit.wf, IntKind.min, IntKind.max, IntKind.signed, IntKind.bits]; omega)) (plainElem_int Try.underlying3 (a := (i : Int)) (by simp [Lit.wf, IntKind.min, IntKind.max, IntKind.signed, IntKind.bits]; omega))
  have hm : IsMap D := by
    obtain ⟨es, clock, hb, F, hs, hD⟩ := hD
    exact ⟨_, hD⟩
  refine ⟨w', h1, ⟨_, h2, fun x => ?_⟩, h3⟩
  by_cases e : x = r
  · subst e
    simp only [if_true]
    exact ⟨has_put_same hm (by simp [WideAt.IsKeyLit]) _, atKey_put_same hm (by simp [WideAt.IsKeyLit]) _ _⟩
  · simp only [if_neg e]
    exact ⟨(has_put_other (by simp [e]) _).trans (hf x).1, (atKey_put_other (by simp [e]) _ _).trans (hf x).2⟩

/-! ### blocks -/
structure TBlk where
  root : Int
  par : Nat
  slot : Int
  high : Nat
  kids : List Int
def tcells (b : TBlk) (kv : Value) : List Value := [.int .u64 b.root, .int .i64 (b.par : Int), .int .i64 b.slot, .int .i64 (b.high : Int), kv]
def tR (cs : List Value) (x : TBlk × Value) : Prop := cs = tcells x.1 x.2 ∧ x.2.oneCell' = true
theorem tR_one : ∀ cs x, tR cs x → ∀ u ∈ cs, u.oneCell' = true := by
  rintro cs x ⟨rfl, h⟩ u hu
  simp [tcells] at hu
  rcases hu with rfl | rfl | rfl | rfl | rfl
  all_goals first | rfl | exact h
/-- the block of a row of kids -/
def kb (ks : List Value) (i : Nat) : Option Nat := (ks.getD i (.slice none 0 0)).ownBlock
/-- a row of blocks -/
structure BAt (w : World) (bv : Value) (bs : List TBlk) (ks : List Value) : Prop where
  len : ks.length = bs.length
  row : OwnRows tR 62 5 0 w bv (bs.zip ks)
  kid : ∀ i (h : i < bs.length), w.ownsRow 0 29 1 (ks.getD i (.slice none 0 0)) bs[i].kids.length (bs[i].kids.map (Value.int .u64))
  far : ∀ i j g, kb ks i = some g → kb ks j = some g → i = j
theorem kb_none {ks : List Value} {i : Nat} (h : ks.length ≤ i) : kb ks i = none := by
  simp [kb, List.getD_eq_getElem?_getD, List.getElem?_eq_none h, Value.ownBlock]
/-- the places in memory of a row of blocks -/
def bfoot (bv : Value) (ks : List Value) (k : Nat) : Prop := bv.ownBlock = some k ∨ ∃ i, kb ks i = some k
/-- where a root stands -/
def idx (bs : List TBlk) (r : Int) : Option Nat := bs.findIdx? (fun b => b.root == r)
/-- a tree -/
def TAt (w : World) (F : Nat → Prop) (p : Nat) (bs : List TBlk) : Prop :=
  ∃ mb bv ks, OAt w p (.cells #[bv, .map (some mb)] 59) ∧ BAt w bv bs ks ∧ MapP w mb bs.length (idx bs) ∧ F p ∧ F mb ∧ (∀ k, bfoot bv ks k → F k)

theorem BAt.block {w : World} {bv : Value} {bs : List TBlk} {ks : List Value} (h : BAt w bv bs ks) {k : Nat} (hk : bfoot bv ks k) : ∃ C t, w.heap[k]? = some (.cells C t (0, 0)) ∧ (t = 62 ∨ t = 29) := by
  rcases hk with hk | ⟨i, hk⟩
  · obtain ⟨css, _, ho⟩ := h.row
    rcases ho.2 with ⟨rfl, _⟩ | ⟨g, cap, cur, rfl, _, hb, _⟩
    · cases hk
    · cases hk
      exact ⟨_, _, hb, .inl rfl⟩
  · have hi : i < bs.length := by
      rcases Nat.lt_or_ge i bs.length with h' | h'
      · exact h'
      · rw [kb_none (by rw [h.len]; exact h')] at hk
        cases hk
    rcases (h.kid i hi).2 with ⟨e, _⟩ | ⟨g, cap, cur, e, _, hb, _⟩
    · rw [kb, e] at hk
      cases hk
    · rw [kb, e] at hk
      cases hk
      exact ⟨_, _, hb, .inr rfl⟩
theorem BAt.turn {w w' : World} {bv : Value} {bs : List TBlk} {ks : List Value} {F : Nat → Prop} (h : BAt w bv bs ks) (k : Turn F w w') (hF : ∀ g, bfoot bv ks g → ¬ F g) : BAt w' bv bs ks := by
  refine ⟨h.len, ?_, fun i hi => owns_turn (h.kid i hi) k (fun g hg => hF g (.inr ⟨i, hg⟩)), h.far⟩
  obtain ⟨css, hc, ho⟩ := h.row
  exact ⟨css, hc, owns_turn ho k (fun g hg => hF g (.inl hg))⟩
theorem TAt.turn {w w' : World} {p : Nat} {bs : List TBlk} {F G : Nat → Prop} (h : TAt w F p bs) (k : Turn G w w') (hF : ∀ g, F g → ¬ G g) : TAt w' F p bs := by
  obtain ⟨mb, bv, ks, h1, h2, h3, h4, h5, h6⟩ := h
  exact ⟨mb, bv, ks, h1.turn k (hF _ h4), h2.turn k (fun g hg => hF _ (h6 g hg)), h3.of (k.block mb h3.lt (hF _ h5)), h4, h5, h6⟩
theorem TAt.below {w w' : World} {p : Nat} {bs : List TBlk} {F : Nat → Prop} (h : TAt w F p bs) (k : Below w.heap.size w w') : TAt w' F p bs := h.turn (G := fun _ => False) (.of k) (fun _ _ h => h)
theorem TAt.alloc {w : World} {p : Nat} {bs : List TBlk} {F : Nat → Prop} (h : TAt w F p bs) (o : Obj) : TAt (w.alloc o) F p bs := h.below (below_alloc _ _)
theorem TAt.drew {w : World} {p : Nat} {bs : List TBlk} {F : Nat → Prop} (h : TAt w F p bs) : TAt w.drew F p bs := h.below (Below.refl _ _).drew
theorem TAt.mono {w : World} {p : Nat} {bs : List TBlk} {F G : Nat → Prop} (h : TAt w F p bs) (hG : ∀ k, F k → G k) : TAt w G p bs := by
  obtain ⟨mb, bv, ks, h1, h2, h3, h4, h5, h6⟩ := h
  exact ⟨mb, bv, ks, h1, h2, h3, hG _ h4, hG _ h5, fun k hk => hG _ (h6 k hk)⟩
/-- its footprint can be taken to lie in the world -/
theorem TAt.tight {w : World} {p : Nat} {bs : List TBlk} {F : Nat → Prop} (h : TAt w F p bs) : TAt w (fun k => F k ∧ k < w.heap.size) p bs := by
  obtain ⟨mb, bv, ks, h1, h2, h3, h4, h5, h6⟩ := h
  exact ⟨mb, bv, ks, h1, h2, h3, ⟨h4, h1.lt⟩, ⟨h5, h3.lt⟩, fun k hk => ⟨h6 k hk, by
    obtain ⟨C, t, hb, _⟩ := h2.block hk
    exact (OAt.of hb).lt⟩⟩
/-- the cells of the row of blocks -/
theorem BAt.cells {w : World} {bv : Value} {bs : List TBlk} {ks : List Value} (h : BAt w bv bs ks) : ∃ ao c, bv = .slice ao bs.length c ∧ bs.length ≤ c ∧ c ≤ maxLen ∧ ∀ i (hi : i < bs.length), ∃ g, ao = some ⟨g, 0, none⟩ ∧ g < w.heap.size ∧ ∀ j, j < 5 → w.cell? ⟨g, i * 5 + j, none⟩ = (tcells bs[i] (ks.getD i (.slice none 0 0)))[j]? := by
  have hz : (bs.zip ks).length = bs.length := by simp [h.len]
  obtain ⟨css, hc, ho⟩ := h.row
  have hlen := fun cs hm => (hc.mem cs hm).1
  rw [hz] at ho
  rcases ho.2 with ⟨rfl, h0⟩ | ⟨g, cap, cur, rfl, hb, hg, hnc, hcm, hcs, htk⟩
  · exact ⟨none, 0, by rw [h0], by omega, by simp [maxLen], fun i hi => by omega⟩
  · refine ⟨_, cap, rfl, hnc, hcm, fun i hi => ⟨g, rfl, (OAt.of hg).lt, fun j hj => ?_⟩⟩
    have hi' : i < css.length := by rw [hc.1, hz]; exact hi
    have hik : i < ks.length := by rw [h.len]; exact hi
    have hlt2 : i * 5 + j < bs.length * 5 := by omega
    rw [ho.cellAt (i * 5 + j) hlt2, flatten_get css hlen i hi' j hj, (hc.2 i hi' (by rw [hz]; exact hi)).2.2.1]
    simp [List.getD_eq_getElem?_getD, List.getElem?_eq_getElem hik]
end Go.Proofs.Ytfkabmgbcdoijaa

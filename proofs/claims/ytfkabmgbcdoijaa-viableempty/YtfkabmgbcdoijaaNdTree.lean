/- A tree and the row of its model, beside one another in memory. -/
import Derived.Test.YtfkabmgbcdoijaaNdBelow

import Derived.Test.YtfkabmgbcdoijaaTAdd

namespace Go.Proofs.Ytfkabmgbcdoijaa

open Go.ChangeShapes Go.WideShapes Go.ChangeAt Go.RowKit

set_option linter.unusedVariables false

theorem cells_type {w : World} {g : Nat} {C D : Array Value} {t u : TypeId} {m n : Nat × Nat} (h : w.heap[g]? = some (.cells C t m)) (k : w.heap[g]? = some (.cells D u n)) : t = u := by
  rw [h] at k
  simp at k
  exact k.2.1
/-- a block of nodes is no part of a tree -/
theorem TAt.strip {w : World} {F : Nat → Prop} {p : Nat} {bs : List TBlk} (h : TAt w F p bs) {g : Nat} {C : Array Value} {m : Nat × Nat} (hg : w.heap[g]? = some (.cells C 39 m)) : TAt w (fun k => F k ∧ k ≠ g) p bs := by
  obtain ⟨mb, bv, ks, h1, h2, h3, h4, h5, h6⟩ := h
  refine ⟨mb, bv, ks, h1, h2, h3, ⟨h4, ?_⟩, ⟨h5, ?_⟩, fun k hk => ⟨h6 k hk, ?_⟩⟩
  · rintro rfl
    exact absurd (cells_type h1.at_ hg) (by decide)
  · rintro rfl
    exact h3.notCells hg
  · rintro rfl
    obtain ⟨D, t, hb, ht⟩ := h2.block hk
    have := cells_type hb hg
    subst this
    rcases ht with h | h <;> exact absurd h (by decide)
theorem OwnRows.blk {α : Type} {R : List Value → α → Prop} {e : TypeId} {size base : Nat} {w : World} {v : Value} {vs : List α} (h : OwnRows R e size base w v vs) {g : Nat} (hg : v.ownBlock = some g) : base ≤ g ∧ g < w.heap.size ∧ ∃ C, w.heap[g]? = some (.cells C e (0, 0)) := by
  obtain ⟨css, hc, ho⟩ := h
  rcases ho.2 with ⟨rfl, h0⟩ | ⟨b, cap, cur, rfl, h1, h2, _⟩
  · cases hg
  · cases hg
    exact ⟨h1, (OAt.of h2).lt, _, h2⟩
/-- both, behind B, beside the blocks of K -/
def MdAt (B : Nat) (K : Nat → Prop) (p : Nat) (bs : List TBlk) (sv : Value) (ms : List Nod) (w : World) : Prop :=
  ∃ F, TAt w F p bs ∧ (∀ i, F i → B ≤ i ∧ i < w.heap.size ∧ ¬ K i ∧ sv.ownBlock ≠ some i) ∧ OwnRows nR 39 3 B w sv ms ∧ ∀ i, K i → i < w.heap.size ∧ sv.ownBlock ≠ some i
theorem MdAt.below {B : Nat} {K : Nat → Prop} {p : Nat} {bs : List TBlk} {sv : Value} {ms : List Nod} {w w' : World} (h : MdAt B K p bs sv ms w) (k : Below w.heap.size w w') : MdAt B K p bs sv ms w' := by
  obtain ⟨F, h1, h2, h3, h4⟩ := h
  have := k.size
  exact ⟨F, h1.below k, fun i hi => ⟨(h2 i hi).1, by have := (h2 i hi).2.1; omega, (h2 i hi).2.2⟩, h3.below k (fun _ _ h => h), fun i hi => ⟨by have := (h4 i hi).1; omega, (h4 i hi).2⟩⟩
/-- blocks that are new are beside them -/
theorem MdAt.new {B : Nat} {K K' : Nat → Prop} {p : Nat} {bs : List TBlk} {sv : Value} {ms : List Nod} {w w' : World} (h : MdAt B K p bs sv ms w) (k : Below w.heap.size w w') (hK : ∀ i, K' i → w.heap.size ≤ i ∧ i < w'.heap.size) : MdAt B K' p bs sv ms w' := by
  obtain ⟨F, h1, h2, h3, h4⟩ := h
  have := k.size
  refine ⟨F, h1.below k, fun i hi => ⟨(h2 i hi).1, by have := (h2 i hi).2.1; omega, fun hk => ?_, (h2 i hi).2.2.2⟩, h3.below k (fun _ _ h => h), fun i hi => ⟨(hK i hi).2, fun e => ?_⟩⟩
  · have := (h2 i hi).2.1; have := (hK i hk).1; omega
  · have := (h3.blk e).2.1; have := (hK i hi).1; omega
theorem MdAt.free {B : Nat} {K : Nat → Prop} {p : Nat} {bs : List TBlk} {sv : Value} {ms : List Nod} {w : World} (h : MdAt B K p bs sv ms w) : MdAt B (fun _ => False) p bs sv ms w := by
  obtain ⟨F, h1, h2, h3, h4⟩ := h
  exact ⟨F, h1, fun i hi => ⟨(h2 i hi).1, (h2 i hi).2.1, fun e => e, (h2 i hi).2.2.2⟩, h3, fun i hi => hi.elim⟩
/-- the model's row, to be read -/
theorem MdAt.row {B : Nat} {K : Nat → Prop} {p : Nat} {bs : List TBlk} {sv : Value} {ms : List Nod} {w : World} (h : MdAt B K p bs sv ms w) : ∃ a c, sv = .slice a ms.length c ∧ NRow w a ms.length ms := by
  obtain ⟨F, h1, h2, h3, h4⟩ := h
  exact NRow.of h3
theorem MdAt.tree {B : Nat} {K : Nat → Prop} {p : Nat} {bs : List TBlk} {sv : Value} {ms : List Nod} {w : World} (h : MdAt B K p bs sv ms w) : TAt w (fun k => B ≤ k) p bs := by
  obtain ⟨F, h1, h2, h3, h4⟩ := h
  exact h1.mono (fun k hk => (h2 k hk).1)
/-- a tree of one block, and its model, just laid -/
theorem MdAt.one {p : Nat} {bs : List TBlk} {w w1 : World} {x : Nod} (h : TAt w1 (fun k => w.heap.size ≤ k) p bs) (hb : Below w.heap.size w w1) :
    MdAt w.heap.size (fun _ => False) p bs (.slice (some ⟨w1.heap.size, 0, none⟩) 1 1) [x] (w1.alloc (.cells (nC x).toArray 39)) := by
  refine ⟨_, h.tight.alloc _, fun i hi => ⟨hi.1, by rw [World.size_alloc]; have := hi.2; omega, fun e => e, ?_⟩, ⟨[nC x], ⟨rfl, fun i h1 h2 => ?_⟩, ?_⟩, fun i hi => hi.elim⟩
  · intro e
    simp [Value.ownBlock] at e
    have := hi.2
    omega
  · have : i = 0 := by simp at h1; exact h1
    subst this
    exact ⟨rfl, nR_one _ x rfl, rfl⟩
  · exact ⟨rfl, .inr ⟨w1.heap.size, 1, (nC x).toArray, rfl, hb.size, heap_alloc_new _ _, Nat.le_refl _, by simp [maxLen], rfl, rfl⟩⟩
/-- Add, beside the model -/
theorem md_add (B : Nat) (K : Nat → Prop) (p : Nat) (bs : List TBlk) (sv : Value) (ms : List Nod) (r q s : Int) (w : World) (hB : B ≤ w.heap.size) (hT : MdAt B K p bs sv ms w) (hO : TOk bs) (hU : U64 r) (hq : U64 q) (hs : I64 s) :
    Calls Try.prog 16 #[.pointer (some ⟨p, 0, none⟩), .int .u64 r, .int .u64 q, .int .i64 s] w fun e w' => e = .returned (errV (addE bs r q s)) ∧ ∃ bs', Next bs r q s bs' ∧ MdAt B K p bs' sv ms w' ∧ Below B w w' ∧ ∀ k, K k → w'.heap[k]? = w.heap[k]? := by
  obtain ⟨F, h1, h2, h3, h4⟩ := hT
  refine (add_any F p bs r q s w h1 hO hU hq hs).mono ?_
  rintro e w' ⟨rfl, h⟩
  refine ⟨rfl, ?_⟩
  rcases h with ⟨k1, rfl⟩ | ⟨k1, o, F', k, k2, k3, k4, k5, k6, k7, k8, k9, k10⟩
  · exact ⟨bs, .inl ⟨k1, rfl⟩, ⟨F, h1, h2, h3, h4⟩, Below.refl _ _, fun _ _ => rfl⟩
  · have hsz := k9.size
    refine ⟨_, .inr ⟨k1, o, k, k2, k3, k4, k5, k7, k8, rfl⟩, ⟨_, k6.tight, fun i hi => ⟨?_, hi.2, fun hk => ?_, fun e => ?_⟩, ?_, fun i hi => ⟨by have := (h4 i hi).1; omega, (h4 i hi).2⟩⟩, k9.below hB (fun i hi => (h2 i hi).1), fun i hi => k9.block i (h4 i hi).1 (fun hf => (h2 i hf).2.2.1 hi)⟩
    · rcases k10 i hi.1 with h | h
      · exact (h2 i h).1
      · omega
    · rcases k10 i hi.1 with h | h
      · exact (h2 i h).2.2.1 hk
      · have := (h4 i hk).1; omega
    · rcases k10 i hi.1 with h | h
      · exact (h2 i h).2.2.2 e
      · have := (h3.blk e).2.1; omega
    · obtain ⟨css, hc, ho⟩ := h3
      exact ⟨css, hc, owns_turn ho k9 (fun g hg hf => (h2 g hf).2.2.2 hg)⟩
/-- the model's row grows -/
theorem MdAt.push {B : Nat} {K : Nat → Prop} {p : Nat} {bs : List TBlk} {sv sv' : Value} {ms ms' : List Nod} {w w' : World} (h : MdAt B K p bs sv ms w) (ho : OwnRows nR 39 3 B w' sv' ms') (hg : w.grownBy w' sv.ownBlock) : MdAt B (fun _ => False) p bs sv' ms' w' := by
  obtain ⟨F, h1, h2, h3, h4⟩ := h
  have ht : TAt w' F p bs := h1.turn (Turn.grown hg) (fun g hf e => (h2 g hf).2.2.2 e)
  have hsz := hg.size
  cases hb : sv'.ownBlock with
  | none => exact ⟨F, ht, fun i hi => ⟨(h2 i hi).1, by have := (h2 i hi).2.1; omega, fun e => e, by rw [hb]; exact fun e => by cases e⟩, ho, fun i hi => hi.elim⟩
  | some g =>
    obtain ⟨b1, b2, C, b3⟩ := ho.blk hb
    exact ⟨_, ht.strip b3, fun i hi => ⟨(h2 i hi.1).1, by have := (h2 i hi.1).2.1; omega, fun e => e, by rw [hb]; intro e; cases e; exact hi.2 rfl⟩, ho, fun i hi => hi.elim⟩
end Go.Proofs.Ytfkabmgbcdoijaa

/- Two trees beside one another. -/
import Derived.Test.YtphahkjjmomjcaaDoorTActs

import Derived.Test.YtphahkjjmomjcaaDoorTRoots

import Derived.Test.YtphahkjjmomjcaaDoorTSort5

namespace Go.Proofs.YtphahkjjmomjcaaDoor

open Go.ChangeShapes Go.WideShapes Go.ChangeAt Go.RowKit

set_option linter.unusedVariables false

/-- two trees, apart, behind B, beside the blocks of K -/
def Two (B : Nat) (K : Nat → Prop) (p : Nat) (bs : List TBlk) (q : Nat) (cs : List TBlk) (w : World) : Prop := ∃ F G : Nat → Prop, TAt w F p bs ∧ TAt w G q cs ∧ (∀ i, F i → ¬ G i) ∧ (∀ i, F i → B ≤ i ∧ i < w.heap.size ∧ ¬ K i) ∧ (∀ i, G i → B ≤ i ∧ i < w.heap.size ∧ ¬ K i) ∧ ∀ i, K i → i < w.heap.size
theorem Two.swap {B : Nat} {K : Nat → Prop} {p : Nat} {bs : List TBlk} {q : Nat} {cs : List TBlk} {w : World} (h : Two B K p bs q cs w) : Two B K q cs p bs w := by
  obtain ⟨F, G, h1, h2, h3, h4, h5, h6⟩ := h
  exact ⟨G, F, h2, h1, fun i hi hf => h3 i hf hi, h5, h4, h6⟩
theorem Two.below {B : Nat} {K : Nat → Prop} {p : Nat} {bs : List TBlk} {q : Nat} {cs : List TBlk} {w w' : World} (h : Two B K p bs q cs w) (k : Below w.heap.size w w') : Two B K p bs q cs w' := by
  obtain ⟨F, G, h1, h2, h3, h4, h5, h6⟩ := h
  have := k.size
  exact ⟨F, G, h1.below k, h2.below k, h3, fun i hi => ⟨(h4 i hi).1, by have := (h4 i hi).2.1; omega, (h4 i hi).2.2⟩, fun i hi => ⟨(h5 i hi).1, by have := (h5 i hi).2.1; omega, (h5 i hi).2.2⟩, fun i hi => by have := h6 i hi; omega⟩
/-- a block that is new is beside them -/
theorem Two.new {B : Nat} {K : Nat → Prop} {p : Nat} {bs : List TBlk} {q : Nat} {cs : List TBlk} {w : World} (h : Two B K p bs q cs w) (o : Obj) : Two B (fun i => i = w.heap.size) p bs q cs (w.alloc o) := by
  obtain ⟨F, G, h1, h2, h3, h4, h5, h6⟩ := h
  refine ⟨F, G, h1.alloc o, h2.alloc o, h3, fun i hi => ?_, fun i hi => ?_, fun i hi => ?_⟩
  · have := h4 i hi; rw [World.size_alloc]; omega
  · have := h5 i hi; rw [World.size_alloc]; omega
  · rw [World.size_alloc]; omega
theorem Two.free {B : Nat} {K : Nat → Prop} {p : Nat} {bs : List TBlk} {q : Nat} {cs : List TBlk} {w : World} (h : Two B K p bs q cs w) : Two B (fun _ => False) p bs q cs w := by
  obtain ⟨F, G, h1, h2, h3, h4, h5, h6⟩ := h
  exact ⟨F, G, h1, h2, h3, fun i hi => ⟨(h4 i hi).1, (h4 i hi).2.1, fun e => e⟩, fun i hi => ⟨(h5 i hi).1, (h5 i hi).2.1, fun e => e⟩, fun i hi => hi.elim⟩
/-- the place of a new one is one alone -/
theorem spot_one {zs : List Int} {x : Int} {i j : Nat} (hp : zs.Pairwise (· < ·)) (hi : Spot zs x i i) (hj : Spot zs x j j) (li : i ≤ zs.length) (lj : j ≤ zs.length) : i = j := by
  obtain ⟨a1, a2⟩ := hi hp
  obtain ⟨b1, b2⟩ := hj hp
  rcases Nat.lt_trichotomy i j with h | h | h
  · have := b1 i h; have := a2 i (Nat.le_refl _) (by omega); omega
  · exact h
  · have := a1 j h; have := b2 j (Nat.le_refl _) (by omega); omega
theorem Next.one {bs : List TBlk} {r q s : Int} {b1 b2 : List TBlk} (hO : TOk bs) (h : Next bs r q s b1) (k : Next bs r q s b2) : b1 = b2 := by
  rcases h with ⟨h, rfl⟩ | ⟨h, o, i, h1, h2, h3, h4, h5, h6, rfl⟩ <;> rcases k with ⟨k, rfl⟩ | ⟨k, o', j, k1, k2, k3, k4, k5, k6, rfl⟩
  · rfl
  · exact absurd k h
  · exact absurd h k
  · rw [h1] at k1
    cases k1
    rw [spot_one (hO.kr o (idx_some h1).1) h6 k6 h5 k5]
theorem two_add (B : Nat) (K : Nat → Prop) (p : Nat) (bs : List TBlk) (p2 : Nat) (cs : List TBlk) (r q s : Int) (w : World) (hB : B ≤ w.heap.size) (hT : Two B K p bs p2 cs w) (hO : TOk bs) (hU : U64 r) (hq : U64 q) (hs : I64 s) :
    Calls Tryd.prog 10 #[.pointer (some ⟨p, 0, none⟩), .int .u64 r, .int .u64 q, .int .i64 s] w fun e w' => e = .returned (errV (addE bs r q s)) ∧ ∃ bs', Next bs r q s bs' ∧ Two B K p bs' p2 cs w' ∧ Below B w w' ∧ ∀ k, K k → w'.heap[k]? = w.heap[k]? := by
  obtain ⟨F, G, h1, h2, h3, h4, h5, h0⟩ := hT
  refine (add_any F p bs r q s w h1 hO hU hq hs).mono ?_
  rintro e w' ⟨rfl, h⟩
  refine ⟨rfl, ?_⟩
  rcases h with ⟨k1, rfl⟩ | ⟨k1, o, F', k, k2, k3, k4, k5, k6, k7, k8, k9, k10⟩
  · exact ⟨bs, .inl ⟨k1, rfl⟩, ⟨F, G, h1, h2, h3, h4, h5, h0⟩, Below.refl _ _, fun _ _ => rfl⟩
  · have hsz := k9.size
    refine ⟨_, .inr ⟨k1, o, k, k2, k3, k4, k5, k7, k8, rfl⟩, ⟨_, G, k6.tight, h2.turn k9 (fun i hg hf => h3 i hf hg), fun i hi hg => ?_, fun i hi => ⟨?_, hi.2, fun hk => ?_⟩, fun i hi => ⟨(h5 i hi).1, by have := (h5 i hi).2.1; omega, (h5 i hi).2.2⟩, fun i hi => by have := h0 i hi; omega⟩, k9.below hB (fun i hi => (h4 i hi).1), fun i hi => k9.block i (h0 i hi) (fun hf => (h4 i hf).2.2 hi)⟩
    · rcases k10 i hi.1 with h | h
      · exact h3 i h hg
      · have := (h5 i hg).2.1; omega
    · rcases k10 i hi.1 with h | h
      · exact (h4 i h).1
      · omega
    · rcases k10 i hi.1 with h | h
      · exact (h4 i h).2.2 hk
      · have := h0 i hk; omega
/-- what scripts make: of 24 roots, at early slots -/
structure Small (bs : List TBlk) : Prop where
  ok : TOk bs
  root : ∀ i, i < bs.length → (tb bs i).root < 24
  slot : ∀ i, i < bs.length → (tb bs i).slot < 40
theorem Next.small {bs : List TBlk} {r q s : Int} {bs' : List TBlk} (h : Next bs r q s bs') (hS : Small bs) (hr : 0 ≤ r ∧ r < 24) (hs : 0 ≤ s ∧ s < 40) : Small bs' := by
  refine ⟨h.ok hS.ok (by unfold U64; omega) (by unfold I64; omega), ?_, ?_⟩
  all_goals
    rcases h with ⟨h, rfl⟩ | ⟨h, o, k, h1, h2, h3, h4, h5, h6, rfl⟩
  · exact hS.root
  · intro i hi
    rw [layB_len] at hi
    by_cases e : i < bs.length
    · rw [(root_lay bs r o s k i e).1]; exact hS.root i e
    · have : i = bs.length := by omega
      rw [tb_lay, if_neg e, if_pos this]; exact hr.2
  · exact hS.slot
  · intro i hi
    rw [layB_len] at hi
    by_cases e : i < bs.length
    · rw [(root_lay bs r o s k i e).2.2.1]; exact hS.slot i e
    · have : i = bs.length := by omega
      rw [tb_lay, if_neg e, if_pos this]; exact hs.2
theorem pigeons : ∀ (n : Nat) (l : List Int), l.Nodup → (∀ x ∈ l, 0 ≤ x ∧ x < n) → l.length ≤ n := by
  intro n
  induction n with
  | zero => intro l _ h; cases l with
    | nil => exact Nat.le_refl _
    | cons x l => have := h x (by simp); omega
  | succ n ih =>
    intro l hn h
    have h2 := ih (l.erase (n : Int)) (hn.erase _) (fun x hx => by
      have hm := (hn.mem_erase_iff).1 hx
      have := h x hm.2
      have := hm.1
      omega)
    have := List.length_erase (a := (n : Int)) (l := l)
    split at this <;> omega
theorem Small.len {bs : List TBlk} (h : Small bs) : bs.length ≤ 24 := by
  have := pigeons 24 (rts bs) (rts_nodup h.ok) (fun x hx => by
    simp only [rts, List.mem_map] at hx
    obtain ⟨t, ht, rfl⟩ := hx
    obtain ⟨i, hi, rfl⟩ := List.getElem_of_mem ht
    have h1 := h.root i hi
    have h2 := h.ok.root i hi
    rw [tb_lt hi] at h1 h2
    unfold U64 at h2
    omega)
  simpa [rts] using this
theorem small_one : Small (tOne 1 2) := ⟨tOne_ok (u_lit (by simp)) (i_lit (by simp)), fun i hi => by
  have : i = 0 := by simp [tOne] at hi; exact hi
  subst this; simp [tOne, tb], fun i hi => by
  have : i = 0 := by simp [tOne] at hi; exact hi
  subst this; simp [tOne, tb]⟩
theorem two_made {w1 w2 w3 : World} {p p2 : Nat} {bs cs : List TBlk} (h1 : TAt w2 (fun k => w1.heap.size ≤ k) p bs) (h2 : TAt w3 (fun k => w2.heap.size ≤ k) p2 cs) (b1 : Below w1.heap.size w1 w2) (b2 : Below w2.heap.size w2 w3) : Two w1.heap.size (fun _ => False) p bs p2 cs w3 := by
  have := b1.size
  have := b2.size
  refine ⟨_, _, h1.tight.below b2, h2.tight, fun i hi hj => ?_, fun i hi => ⟨hi.1, ?_, fun e => e⟩, fun i hi => ⟨?_, hi.2, fun e => e⟩, fun i hi => hi.elim⟩
  · have := hi.2; have := hj.1; omega
  · have := hi.1; have := hi.2; omega
  · have := hi.1; have := hi.2; omega
/-- a tree is cut, the other stays -/
theorem two_cut (B : Nat) (p : Nat) (bs : List TBlk) (p2 : Nat) (cs : List TBlk) (r : Int) (b : Nat) (w : World) (hB : B ≤ w.heap.size) (hT : Two B (fun _ => False) p bs p2 cs w) (hO : TOk bs) (hr : U64 r) (hx : idx bs r = some b) (hl : bs.length ≤ 50) :
    Calls Tryd.prog 6 #[.pointer (some ⟨p, 0, none⟩), .int .u64 r] w fun e w' => ∃ gv ts, e = .returned gv ∧ w'.ownsRow w.heap.size 26 1 gv (GL bs b bs.length).length ((rise (GL bs b bs.length)).map (Value.int .u64)) ∧ TOk ts ∧ CutOf bs (SL bs b bs.length) ts ∧ Two B (fun i => gv.ownBlock = some i) p ts p2 cs w' ∧ Below B w w' := by
  obtain ⟨F, G, h1, h2, h3, h4, h5, h0⟩ := hT
  refine (cut_any 49 sorts49 F p bs r b w h1 hO hr hx hl).mono ?_
  rintro e w' ⟨gv, rfl, hown, F', ts, k1, k2, k3, k4, k5, k6⟩
  have hsz := k4.size
  refine ⟨gv, ts, rfl, hown, k2, k3, ⟨_, G, k1.tight, h2.turn k4 (fun i hg hf => h3 i hf hg), fun i hi hg => ?_, fun i hi => ⟨?_, hi.2, fun hk => k6 i hk hi.1⟩, fun i hi => ⟨(h5 i hi).1, by have := (h5 i hi).2.1; omega, fun hk => ?_⟩, fun i hi => (hown.lt i hi).2⟩, k4.below hB (fun i hi => (h4 i hi).1)⟩
  · rcases k5 i hi.1 with h | h
    · exact h3 i h hg
    · have := (h5 i hg).2.1; omega
  · rcases k5 i hi.1 with h | h
    · exact (h4 i h).1
    · omega
  · have := (hown.lt i hk).1
    have := (h5 i hi).2.1
    omega
theorem root_of {ts : List TBlk} {k : Nat} (hk : k < ts.length) : ∃ q, q < ts.length ∧ (tb ts q).root = (rise (rts ts)).getD k 0 := by
  have hl : k < (rise (rts ts)).length := by rw [rise_len]; simpa [rts] using hk
  have hm : (rise (rts ts)).getD k 0 ∈ rise (rts ts) := by rw [List.getD_eq_getElem?_getD, List.getElem?_eq_getElem hl]; exact List.getElem_mem hl
  have hm2 := (rise_perm (rts ts)).mem_iff.1 hm
  simp only [rts, List.mem_map] at hm2
  obtain ⟨t, ht, e⟩ := hm2
  obtain ⟨q, hq, rfl⟩ := List.getElem_of_mem ht
  exact ⟨q, hq, by rw [tb_lt hq]; exact e⟩
/-- a root that is left: what Get tells of it, here and there -/
theorem cut_pair {bs ts : List TBlk} {b k : Nat} {R : Int} (hS : Small bs) (hT : TOk ts) (hC : CutOf bs (SL bs b bs.length) ts) (hb : b < bs.length) (hr : (tb bs b).root = R) (hk : k < ts.length) :
    ∃ (X : Int) (q j : Nat) (P1 P2 Z : Int) (h J : Nat), (rise (rts ts)).getD k 0 = X ∧ U64 X ∧ idx ts X = some q ∧ idx bs X = some j ∧ getV ts q = .tuple #[.int .u64 P1, .int .i64 Z, .int .i64 (h : Int), .bool true] ∧ getV bs j = .tuple #[.int .u64 P2, .int .i64 Z, .int .i64 (J : Int), .bool true] ∧ J = h + (tb bs b).high ∧ J ≤ 24 ∧ (X ≠ R → P1 = P2) := by
  obtain ⟨q, hq, e⟩ := root_of hk
  obtain ⟨j, h1, h2, h3, h4⟩ := hC.back hS.ok hT hb hq
  refine ⟨_, q, j, (tb ts (tb ts q).par).root, (tb bs (tb bs j).par).root, (tb ts q).slot, (tb ts q).high, (tb bs j).high, rfl, ?_, ?_, ?_, rfl, ?_, h3, ?_, fun hne => ?_⟩
  · rw [← e]; exact hT.root q hq
  · rw [← e]; exact idx_of hT hq
  · rw [← e]; exact h1
  · rw [getV, h2]
  · have := hS.ok.high j (idx_some h1).1
    have := (idx_some h1).1
    have := hS.len
    omega
  · exact (h4 (by rw [e, hr]; exact hne)).symm
end Go.Proofs.YtphahkjjmomjcaaDoor

/- A map of bools keyed by uint64 numbers, which the call makes; a map from numbers to epochs, nil too. -/
import Derived.Test.YtfkabmgbcdoijaaVbMath

import Derived.Maps.RangeWalk

import Derived.Maps.OwnSet

namespace Go.Proofs.Ytfkabmgbcdoijaa

open Go.ChangeShapes Go.WideShapes Go.ChangeAt Go.RowKit Go.Maps

set_option linter.unusedVariables false

theorem plainElem_bool_inv {P : Program} {e : TypeId} (he : P.underlying e = some .bool) {v : Value} {z : DataW Unit × List MemPlace} (h : plainElem P e v = some z) : ∃ a, v = .bool a ∧ z = (.lit (.bool a), []) := by
  unfold plainElem at h
  rw [he] at h
  cases v <;> simp at h
  subst h
  exact ⟨_, rfl, rfl⟩
/-- block b is a map of at most n entries, in which just the numbers of f are, as true -/
def MapB (w : World) (b n : Nat) (f : Int → Bool) : Prop :=
  ∃ D : DataW Unit, w.ownsMap Try.prog 29 (plainElem Try.prog 4) b n D ∧ (∀ r : Int, Maps.has D (.int .u64 r) = f r ∧ D.atKey (.int .u64 r) (.lit (.bool false)) = .lit (.bool (f r))) ∧ ∀ kl, Maps.has D kl = true → ∃ r, kl = .int .u64 r
theorem MapB.lt {w : World} {b n : Nat} {f : Int → Bool} (h : MapB w b n f) : b < w.heap.size := by
  obtain ⟨D, h, _⟩ := h
  exact h.lt
theorem MapB.of {w w' : World} {b n : Nat} {f : Int → Bool} (h : MapB w b n f) (e : w'.heap[b]? = w.heap[b]?) : MapB w' b n f := by
  obtain ⟨D, ⟨es, clock, hb, F, hs, hD⟩, hf⟩ := h
  exact ⟨D, ⟨es, clock, e.trans hb, F, hs, hD⟩, hf⟩
theorem MapB.below {w w' : World} {b n : Nat} {f : Int → Bool} (h : MapB w b n f) (hb : Below w.heap.size w w') : MapB w' b n f := h.of (hb.block b h.lt)
theorem MapB.congr {w : World} {b n : Nat} {f g : Int → Bool} (h : MapB w b n f) (e : ∀ r, f r = g r) : MapB w b n g := by
  have : f = g := funext e
  rw [← this]; exact h
theorem MapB.mono {w : World} {b n m : Nat} {f : Int → Bool} (h : MapB w b n f) (e : n ≤ m) : MapB w b m f := by
  obtain ⟨D, ⟨es, clock, hb, F, hs, hD⟩, hf⟩ := h
  exact ⟨D, ⟨es, clock, hb, F, Nat.le_trans hs e, hD⟩, hf⟩
theorem MapB.new (w : World) : MapB (w.alloc (.map #[] 0)) w.heap.size 0 (fun _ => false) :=
  ⟨.map [], World.ownsMap_made _ _ _ _, fun r => ⟨rfl, rfl⟩, fun kl h => by simp [Maps.has] at h⟩
theorem MapB.look {w : World} {b n : Nat} {f : Int → Bool} (h : MapB w b n f) (r : Int) (hr : 0 ≤ r ∧ r ≤ 18446744073709551615) :
    (Instr.lookup 36 (.map (some b)) (.int .u64 r) false).run Try.prog w = .ok (.bool (f r)) w := by
  obtain ⟨D, hD, hf, _⟩ := h
  obtain ⟨v, ps, hrun, hv⟩ := hD.lookup keyU Try.underlying36 (z := .bool false) (by kernel_rfl) (zd := .lit (.bool false)) (plainElem_bool Try.underlying4 false) (keyOf_int_mk Try.underlying29 (a := r) (by simp [Lit.wf, IntKind.min, IntKind.max, IntKind.signed, IntKind.bits]; omega))
  rw [(hf r).2] at hv
  obtain ⟨c, rfl, hc⟩ := plainElem_bool_inv Try.underlying4 hv
  simp at hc
  rw [hrun, hc.1]
theorem MapB.put {w : World} {b n : Nat} {f : Int → Bool} (h : MapB w b n f) (r : Int) (hr : 0 ≤ r ∧ r ≤ 18446744073709551615) (hn : n < maxLen) :
    ∃ w', (Instr.mapUpdate 36 (.map (some b)) (.int .u64 r) (.bool true)).run Try.prog w = .ok () w' ∧ MapB w' b (n + 1) (fun x => f x || x == r) ∧ w.grownBy w' (some b) := by
  obtain ⟨D, hD, hf, hk⟩ := h
  obtain ⟨w', h1, h2, h3⟩ := hD.update keyU Try.underlying36 hn (keyOf_int_mk Try.underlying29 (a := r) (by simp [Lit.wf, IntKind.min, IntKind.max, IntKind.signed, IntKind.bits]; omega)) (plainElem_bool Try.underlying4 true)
  have hm : IsMap D := by
    obtain ⟨es, clock, hb, F, hs, hD⟩ := hD
    exact ⟨_, hD⟩
  refine ⟨w', h1, ⟨_, h2, fun x => ?_, fun kl hkl => ?_⟩, h3⟩
  · by_cases e : x = r
    · subst e
      simp only [beq_self_eq_true, Bool.or_true]
      exact ⟨has_put_same hm (by simp [WideAt.IsKeyLit]) _, atKey_put_same hm (by simp [WideAt.IsKeyLit]) _ _⟩
    · have e2 : (x == r) = false := by simpa using e
      simp only [e2, Bool.or_false]
      exact ⟨(has_put_other (by simp [e]) _).trans (hf x).1, (atKey_put_other (by simp [e]) _ _).trans (hf x).2⟩
  · by_cases e : kl = .int .u64 r
    · exact ⟨r, e⟩
    · rw [has_put_other e] at hkl
      exact hk kl hkl
theorem sub_len : ∀ (l m : List Int), l.Nodup → (∀ x ∈ l, x ∈ m) → l.length ≤ m.length := by
  intro l
  induction l with
  | nil => intro m _ _; simp
  | cons x l ih =>
    intro m hn hs
    have hx := hs x (by simp)
    rw [List.nodup_cons] at hn
    have h1 := ih (m.erase x) hn.2 (fun y hy => by
      have : y ≠ x := by rintro rfl; exact hn.1 hy
      exact (List.mem_erase_of_ne this).2 (hs y (by simp [hy])))
    have h2 := List.length_erase (a := x) (l := m)
    rw [if_pos hx] at h2
    have : 0 < m.length := List.length_pos_of_mem hx
    simp only [List.length_cons]
    omega
theorem same_len {l m : List Int} (hl : l.Nodup) (hm : m.Nodup) (h : ∀ x, x ∈ l ↔ x ∈ m) : l.length = m.length :=
  Nat.le_antisymm (sub_len _ _ hl (fun x hx => (h x).1 hx)) (sub_len _ _ hm (fun x hx => (h x).2 hx))
/-- the number that a key is -/
def kz : Lit → Int | .int _ z => z | _ => 0
theorem MapB.keys {w : World} {b n : Nat} {f : Int → Bool} (h : MapB w b n f) : ∃ D : DataW Unit, w.ownsMap Try.prog 29 (plainElem Try.prog 4) b n D ∧ (∀ r : Int, Maps.has D (.int .u64 r) = f r) ∧ ∃ L : List Int, L.Nodup ∧ Maps.size D = L.length ∧ ∀ x, x ∈ L ↔ f x = true := by
  obtain ⟨D, hD, hf, hk⟩ := h
  refine ⟨D, hD, fun r => (hf r).1, ?_⟩
  obtain ⟨es, rfl, hp, hl⟩ := hD.entries keyU
  have hu : ∀ p ∈ es, ∃ r, p.1 = .int .u64 r := fun p hpm => hk p.1 (by
    rw [has_eq, List.any_eq_true]
    exact ⟨p, hpm, WideAt.sameKey_self (hl p hpm)⟩)
  refine ⟨es.map (fun p => kz p.1), ?_, by simp [size_eq], fun x => ?_⟩
  · rw [List.Nodup, List.pairwise_map]
    refine hp.imp_of_mem (fun {a b} ha hb hne => ?_)
    obtain ⟨r, hr⟩ := hu a ha
    obtain ⟨s, hs⟩ := hu b hb
    rw [hr, hs] at hne ⊢
    simp only [kz]
    exact fun e => hne (by rw [e])
  · rw [← (hf x).1, has_eq, List.any_eq_true, List.mem_map]
    constructor
    · rintro ⟨p, hpm, rfl⟩
      obtain ⟨r, hr⟩ := hu p hpm
      exact ⟨p, hpm, by rw [hr]; simp [kz, Lit.sameKey]⟩
    · rintro ⟨p, hpm, hs⟩
      obtain ⟨r, hr⟩ := hu p hpm
      refine ⟨p, hpm, ?_⟩
      have := WideAt.sameKey_eq hs
      rw [this]; rfl
/-- of L just, each once: as many are in it -/
theorem MapB.len {w : World} {b n : Nat} {f : Int → Bool} (h : MapB w b n f) {L : List Int} (hL : L.Nodup) (hf : ∀ x, x ∈ L ↔ f x = true) (ty : TypeId) :
    (Builtin.len_ #[36] ty #[.map (some b)]).run Try.prog w = .ok (.int .i64 (L.length : Int)) w := by
  obtain ⟨D, hD, _, L2, h1, h2, h3⟩ := h.keys
  rw [hD.len Try.underlying36 ty, h2, same_len h1 hL (fun x => by rw [h3, hf])]

/-- of blocks' roots alone there are no more than blocks -/
theorem MapB.tight {w : World} {b n : Nat} {f : Int → Bool} (h : MapB w b n f) {bs : List TBlk} (hf : ∀ x, f x = true → (idx bs x).isSome = true) : MapB w b bs.length f := by
  obtain ⟨D, hD, _, L, h1, h2, h3⟩ := h.keys
  have hle := sub_len L (bs.map (·.root)) h1 (fun x hx => by
    have := hf x ((h3 x).1 hx)
    cases hi : idx bs x with
    | none => rw [hi] at this; cases this
    | some t =>
      obtain ⟨ht, hr⟩ := idx_some hi
      rw [tb_lt ht] at hr
      exact List.mem_map.2 ⟨_, List.getElem_mem ht, hr⟩)
  rw [List.length_map, ← h2] at hle
  obtain ⟨D', hD', hf', hk'⟩ := h
  obtain ⟨es, clock, hb, F, hs, rfl⟩ := hD
  obtain ⟨es', clock', hb', F', hs', hd'⟩ := hD'
  rw [hb] at hb'
  cases hb'
  simp [Maps.size, length_sorted] at hle
  exact ⟨_, ⟨es, clock, hb, F, hle, hd'⟩, hf', hk'⟩

/-! ### epochs by roots -/
/-- a map value: nil, or one that has f -/
def SrcAt (w : World) (sv : Value) (f : Int → Option Nat) : Prop := (sv = .map none ∧ ∀ r, f r = none) ∨ ∃ b n, sv = .map (some b) ∧ MapP w b n f
theorem SrcAt.below {w w' : World} {sv : Value} {f : Int → Option Nat} (h : SrcAt w sv f) (k : Below w.heap.size w w') : SrcAt w' sv f := by
  rcases h with h | ⟨b, n, rfl, h⟩
  · exact .inl h
  · exact .inr ⟨b, n, rfl, h.of (k.block b h.lt)⟩
theorem SrcAt.look {w : World} {sv : Value} {f : Int → Option Nat} (h : SrcAt w sv f) (r : Int) (hr : 0 ≤ r ∧ r ≤ 18446744073709551615) :
    (Instr.lookup 32 sv (.int .u64 r) false).run Try.prog w = .ok (.int .i64 ((f r).getD 0 : Nat)) w := by
  rcases h with ⟨rfl, h⟩ | ⟨b, n, rfl, h⟩
  · rw [h r]
    kernel_rfl
  · exact h.look1 r hr
theorem SrcAt.turn {w w' : World} {sv : Value} {f : Int → Option Nat} {F : Nat → Prop} (h : SrcAt w sv f) (k : Turn F w w') (hF : ∀ b, sv = .map (some b) → ¬ F b) : SrcAt w' sv f := by
  rcases h with h | ⟨b, n, rfl, h⟩
  · exact .inl h
  · exact .inr ⟨b, n, rfl, h.of (k.block b h.lt (hF b rfl))⟩
end Go.Proofs.Ytfkabmgbcdoijaa

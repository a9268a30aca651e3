/- Data with depth that came in, with the sizes of all lists in it: a reading tells of each list that its bytes are among the datum's weights. Nothing of the program. -/
import Derived.Test.YtphahkjjmomjcaaShapes

import Derived.SizedLaws

namespace Go.Proofs.Ytphahkjjmomjcaa

open Go.ChangeShapes Go.WideShapes Go.RowKit Go.Deep

set_option linter.unusedVariables false

/-- each list in the value takes at most so many bytes -/
def Sh.Sz (P : Program) (lim : Nat) : (s : Sh) → (TypeId ⊕ (List Field × Nat)) → s.Val → Prop
  | .slice s, .inl t, vs => ∃ e, P.underlying t = some (.slice e) ∧ List.length (α := s.Val) vs * P.bytesOf e ≤ lim ∧ ∀ v : s.Val, List.Mem v vs → s.Sz P lim (.inl e) v
  | .st s, .inl t, v => ∃ fs : Array Field, P.underlying t = some (.struct fs) ∧ s.Sz P lim (.inr (fs.toList, 0)) v
  | .pair a b, .inr (f :: fs, off), v => a.Sz P lim (.inl f.type) v.1 ∧ b.Sz P lim (.inr (fs, off + a.size)) v.2
  | _, _, _ => True

theorem weights_all {H : Type} {P : Program} {e : TypeId} : ∀ {l : List (DataW H)} {d : DataW H}, d ∈ l → ∀ n ∈ d.weights P e, n ∈ DataW.weightsAll P e l
  | x :: l, d, hd, n, hn => by
    simp only [DataW.weightsAll, List.mem_append]
    rcases List.mem_cons.1 hd with rfl | hd
    · exact .inl hn
    · exact .inr (weights_all hd n hn)

section

variable {H : Type} {enc : TypeId × Value → H} {P : Program} {w : World} {held : Bool}
theorem Sh.readS (lim : Nat) (s : Sh) :
    (∀ (t : TypeId) (fuel : Nat) (cs : List Value) (x : DataW H × List MemPlace), s.Has P (.inl t) → DataW.trod enc P w 0 (fun _ => true) held fuel t cs = some x → (∀ n ∈ x.1.weights P t, n ≤ lim) → ∃ v, s.In w cs v ∧ s.Sz P lim (.inl t) v) ∧
    (∀ (fs : List Field) (off n : Nat) (cs : List Value), s.Has P (.inr (fs, off)) → cs.length = off + s.size →
      (∀ (i : Nat) (f : Field), fs[i]? = some f → ∃ y, DataW.trod enc P w 0 (fun _ => true) held n f.type ((cs.drop f.offset).take (P.cellsOf f.type)) = some y ∧ ∀ n ∈ y.1.weights P f.type, n ≤ lim) → ∃ v, s.In w (cs.drop off) v ∧ s.Sz P lim (.inr (fs, off)) v) := by
  induction s with
  | int k =>
    refine ⟨fun t fuel cs x hs h _ => ?_, fun fs off n cs hs => by cases hs⟩
    obtain ⟨n, e, _, hw⟩ := DataW.trod_int hs h
    exact ⟨n, ⟨e, hw⟩, trivial⟩
  | bool =>
    refine ⟨fun t fuel cs x hs h _ => ?_, fun fs off n cs hs => by cases hs⟩
    obtain ⟨b, e, _⟩ := DataW.trod_bool hs h
    exact ⟨b, e, trivial⟩
  | slice s ih =>
    refine ⟨fun t fuel cs x hs h hwt => ?_, fun fs off n cs hs => by cases hs⟩
    obtain ⟨e, ht, hc, hp, hs⟩ := hs
    rcases open_slice ht h with ⟨rfl, _⟩ | ⟨a, len, cap, m, n, D, Pl, rfl, _, hl, hm, hmm, hxx, hi⟩
    · exact ⟨[], ⟨none, 0, 0, rfl, rfl, fun _ => ⟨rfl, rfl⟩, by simp [maxLen], fun i hi => by simp at hi⟩, e, ht, (by simp : List.length (α := s.Val) [] * P.bytesOf e ≤ lim), fun v hv => (by cases hv)⟩
    · have hmc : m = cap := by simpa using hmm
      subst hmc
      rw [hxx] at hwt
      simp only [DataW.weights, ht] at hwt
      have hsz : (len + (m - len)) * P.bytesOf e ≤ lim := by
        have := hwt _ (List.mem_cons_self ..)
        simpa using this
      have hel : ∀ i, i < len → ∀ n ∈ (D i).weights P e, n ≤ lim := fun i hi n hn =>
        hwt n (List.mem_cons_of_mem _ (List.mem_append.2 (.inl (weights_all (List.mem_map.2 ⟨i, List.mem_range.2 hi, rfl⟩) n hn))))
      have hv : ∀ i : Fin len, ∃ v : s.Val, ∃ cs', w.cells? 0 (a.add (i * P.cellsOf e)) (P.cellsOf e) = some cs' ∧ s.In w cs' v ∧ s.Sz P lim (.inl e) v := fun i => by
        obtain ⟨cs', h1, h2⟩ := hi i (by have := i.2; omega)
        obtain ⟨v, hv, hv2⟩ := ih.1 e n cs' _ hs h2 (hel i i.2)
        exact ⟨v, cs', h1, hv, hv2⟩
      have hV : ∀ i : Fin len, ∃ cs', w.cells? 0 (a.add (i * P.cellsOf e)) (P.cellsOf e) = some cs' ∧ s.In w cs' (Classical.choose (hv i)) ∧ s.Sz P lim (.inl e) (Classical.choose (hv i)) := fun i => Classical.choose_spec (hv i)
      refine ⟨List.ofFn fun i => Classical.choose (hv i), ⟨some a, len, m, rfl, by simp, fun h => (by cases h), ⟨hl, hm⟩, fun i hi => ?_⟩, e, ht, ?_, fun v hv' => ?_⟩
      · have hi' : i < len := by simpa using hi
        obtain ⟨cs', h1, h2, _⟩ := hV ⟨i, hi'⟩
        rw [hc] at h1
        obtain ⟨_, hlen, h3⟩ := World.cells?_some h1
        have hlt := World.cells?_block h1 hp
        obtain ⟨b, off, spot⟩ := a
        obtain ⟨cs0, g1, g2⟩ := hV ⟨0, by omega⟩
        rw [hc] at g1
        obtain ⟨_, glen, g3⟩ := World.cells?_some g1
        have hc0 := g3 0 hp
        rw [List.getElem?_eq_getElem (by omega)] at hc0
        have hspot : spot = none := by simpa [Addr.add] using World.cell?_spot hc0
        subst hspot
        refine ⟨b, off, cs', rfl, by simpa [Addr.add_lit] using hlt, hlen, fun j hj => ?_, ?_⟩
        · have := h3 j hj
          simpa [Addr.add_lit, Nat.add_assoc] using this
        · simpa using h2
      · rw [List.length_ofFn]
        refine Nat.le_trans (Nat.mul_le_mul_right _ (by omega)) hsz
      · obtain ⟨i, rfl⟩ := (List.mem_ofFn).1 hv'
        exact (hV i).choose_spec.2.2
  | st s ih =>
    refine ⟨fun t fuel cs x hs h hwt => ?_, fun fs off n cs hs => by cases hs⟩
    obtain ⟨fs, ht, hc, hs⟩ := hs
    obtain ⟨xs, n, _, hxx, hl, hlen, hf⟩ := DataW.trod_struct ht h
    rw [hxx] at hwt
    simp only [DataW.weights, ht] at hwt
    obtain ⟨v, hv, hv2⟩ := ih.2 fs.toList 0 n cs hs (by omega) (fun i f hif => by
      have hi : i < fs.size := by have := (List.getElem?_eq_some_iff.1 hif).1; simpa using this
      have h1 := hf i f (by simpa using hif)
      rw [List.getElem?_eq_getElem (by omega)] at h1
      refine ⟨_, h1, fun k hk => hwt k (DataW.weights_mem_each (j := i) (t := f.type) (d := (xs[i]'(by omega)).1) ?_ ?_ k hk)⟩
      · rw [List.getElem?_map, hif]; rfl
      · rw [List.getElem?_map, List.getElem?_eq_getElem (by omega)]; rfl)
    rw [List.drop_zero] at hv
    exact ⟨v, hv, fs, ht, hv2⟩
  | unit =>
    refine ⟨fun t fuel cs x hs h => (by cases hs), fun fs off n cs hs hl _ => ⟨(), ?_, trivial⟩⟩
    show cs.drop off = []
    apply List.drop_of_length_le
    simp only [Sh.size] at hl
    omega
  | pair a b iha ihb =>
    refine ⟨fun t fuel cs x hs h => (by cases hs), fun fs off n cs hs hl hf => ?_⟩
    cases fs with
    | nil => cases hs
    | cons f fs =>
      obtain ⟨ho, hc, h1, h2⟩ := hs
      obtain ⟨y, hy, hyw⟩ := hf 0 f rfl
      rw [ho, hc] at hy
      obtain ⟨v1, hv1, hz1⟩ := iha.1 _ _ _ _ h1 hy hyw
      obtain ⟨v2, hv2, hz2⟩ := ihb.2 fs (off + a.size) n cs h2 (by simp only [Sh.size] at hl; omega) (fun i g hg => hf (i + 1) g (by simpa using hg))
      refine ⟨(v1, v2), ⟨_, _, ?_, hv1.size, hv1, hv2⟩, hz1, hz2⟩
      rw [← List.drop_drop, List.take_append_drop]
end
end Go.Proofs.Ytphahkjjmomjcaa

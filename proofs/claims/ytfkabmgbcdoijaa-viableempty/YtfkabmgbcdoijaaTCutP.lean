/- What is cut off a tree, and what is left: plain facts. -/
import Derived.Test.YtfkabmgbcdoijaaTAdd

namespace Go.Proofs.Ytfkabmgbcdoijaa

open Go.RowKit

set_option linter.unusedVariables false

theorem climb_le (bs : List TBlk) (b : Nat) : ∀ t, climb bs b t ≤ t := by
  intro t
  induction t using Nat.strongRecOn with
  | _ t ih =>
    rw [climb]
    split
    · rename_i h; exact Nat.le_trans (ih _ h.2) (by omega)
    · exact Nat.le_refl _
/-- what stands on a place is behind it -/
theorem stands_ge {bs : List TBlk} {b i : Nat} (h : climb bs b i = b) : b ≤ i := by have := climb_le bs b i; omega
theorem stands_par {bs : List TBlk} (hO : TOk bs) {b i : Nat} (hi : i < bs.length) (h : climb bs b i = b) (hne : i ≠ b) : climb bs b (tb bs i).par = b ∧ (tb bs i).par < i := by
  have hb := stands_ge h
  have hp := hO.par i (by omega) hi
  rw [climb_go (by omega) hp] at h
  exact ⟨h, hp⟩
theorem stands_self (bs : List TBlk) (b : Nat) : climb bs b b = b := climb_stop (by omega)
/-- those of the first m that stand on b, b first -/
def SL (bs : List TBlk) (b m : Nat) : List Nat := b :: (List.range m).filter (fun i => decide (i ≠ b ∧ climb bs b i = b))
/-- the roots of those that do not -/
def GL (bs : List TBlk) (b m : Nat) : List Int := ((List.range m).filter (fun i => decide (¬ climb bs b i = b))).map (fun i => (tb bs i).root)
theorem SL_zero (bs : List TBlk) (b : Nat) : SL bs b 0 = [b] := rfl
theorem GL_zero (bs : List TBlk) (b : Nat) : GL bs b 0 = [] := rfl
theorem SL_self (bs : List TBlk) (b : Nat) : SL bs b (b + 1) = SL bs b b := by simp [SL, List.range_succ, List.filter_append]
theorem SL_in {bs : List TBlk} {b m : Nat} (h : climb bs b m = b) (hne : m ≠ b) : SL bs b (m + 1) = SL bs b m ++ [m] := by simp [SL, List.range_succ, List.filter_append, h, hne]
theorem SL_out {bs : List TBlk} {b m : Nat} (h : ¬ climb bs b m = b) : SL bs b (m + 1) = SL bs b m := by simp [SL, List.range_succ, List.filter_append, h]
theorem GL_in {bs : List TBlk} {b m : Nat} (h : climb bs b m = b) : GL bs b (m + 1) = GL bs b m := by simp [GL, List.range_succ, List.filter_append, h]
theorem GL_out {bs : List TBlk} {b m : Nat} (h : ¬ climb bs b m = b) : GL bs b (m + 1) = GL bs b m ++ [(tb bs m).root] := by simp [GL, List.range_succ, List.filter_append, h]
theorem mem_SL {bs : List TBlk} {b m i : Nat} : i ∈ SL bs b m ↔ i = b ∨ (i < m ∧ i ≠ b ∧ climb bs b i = b) := by simp [SL]
theorem GL_len (bs : List TBlk) (b : Nat) : ∀ m, (GL bs b m).length ≤ m := by
  intro m
  have := List.length_filter_le (fun i => decide (¬ climb bs b i = b)) (List.range m)
  simpa [GL] using this
theorem SL_len (bs : List TBlk) (b : Nat) : ∀ m, (SL bs b m).length ≤ m + 1 := by
  intro m
  have := List.length_filter_le (fun i => decide (i ≠ b ∧ climb bs b i = b)) (List.range m)
  simp [SL] at this ⊢
  exact this
theorem GL_nodup {bs : List TBlk} (hO : TOk bs) (b m : Nat) (hm : m ≤ bs.length) : (GL bs b m).Nodup := by
  unfold GL
  rw [List.Nodup, List.pairwise_map]
  have h := (List.nodup_range (n := m)).filter (fun i => decide (¬ climb bs b i = b))
  refine List.Pairwise.imp_of_mem (fun {x y} hx hy hne => ?_) h
  simp at hx hy
  exact fun e => hne (hO.one x y (by omega) (by omega) e)
/-- both together are all -/
theorem SL_GL_len (bs : List TBlk) (b : Nat) : ∀ m, b < m → (SL bs b m).length + (GL bs b m).length = m := by
  intro m
  have key : ∀ m, (SL bs b m).length + (GL bs b m).length = m + (if b < m then 0 else 1) := by
    intro m
    induction m with
    | zero => simp [SL_zero, GL_zero]
    | succ m ih =>
      by_cases e : m = b
      · subst e
        rw [SL_self, GL_in (stands_self bs m)]
        rw [if_neg (by omega)] at ih
        rw [if_pos (by omega)]
        omega
      · by_cases h : climb bs b m = b
        · rw [SL_in h e, GL_in h]
          have := stands_ge h
          rw [if_pos (by omega)] at ih ⊢
          simp
          omega
        · rw [SL_out h, GL_out h]
          simp
          by_cases h2 : b < m
          · rw [if_pos h2] at ih; rw [if_pos (by omega)]; omega
          · rw [if_neg h2] at ih; rw [if_neg (by omega)]; omega
  intro h
  have := key m
  rw [if_pos h] at this
  exact this
/-- ts is what is left: block by block -/
structure CutOf (bs : List TBlk) (S : List Nat) (ts : List TBlk) : Prop where
  len : ts.length = S.length
  root : ∀ q, q < S.length → (tb ts q).root = (tb bs (S.getD q 0)).root
  slot : ∀ q, q < S.length → (tb ts q).slot = (tb bs (S.getD q 0)).slot
  par : ∀ q, 0 < q → q < S.length → (tb ts q).par < S.length ∧ S.getD (tb ts q).par 0 = (tb bs (S.getD q 0)).par
theorem CutOf.start (bs : List TBlk) (b : Nat) : CutOf bs [b] (tOne (tb bs b).root (tb bs b).slot) := by
  refine ⟨rfl, fun q hq => ?_, fun q hq => ?_, fun q h0 hq => ?_⟩
  · have : q = 0 := by simp at hq; exact hq
    subst this; rfl
  · have : q = 0 := by simp at hq; exact hq
    subst this; rfl
  · simp at hq; omega
theorem getD_snoc_lt {S : List Nat} {m q : Nat} (h : q < S.length) : (S ++ [m]).getD q 0 = S.getD q 0 := by
  rw [List.getD_eq_getElem?_getD, List.getD_eq_getElem?_getD, List.getElem?_append_left h]
theorem getD_snoc_eq (S : List Nat) (m : Nat) : (S ++ [m]).getD S.length 0 = m := by simp [List.getD_eq_getElem?_getD]
/-- where the parent of one that stands on b is, among what is left -/
theorem CutOf.find {bs : List TBlk} {S : List Nat} {ts : List TBlk} (h : CutOf bs S ts) (hT : TOk ts) {i : Nat} (hi : i ∈ S) : ∃ o, idx ts (tb bs i).root = some o ∧ o < ts.length ∧ S.getD o 0 = i := by
  obtain ⟨o, ho, e⟩ := List.getElem_of_mem hi
  have e2 : S.getD o 0 = i := by simp [List.getD_eq_getElem?_getD, List.getElem?_eq_getElem ho, e]
  have ho2 : o < ts.length := by rw [h.len]; exact ho
  refine ⟨o, ?_, ho2, e2⟩
  have := idx_of hT ho2
  rw [h.root o ho, e2] at this
  exact this
theorem CutOf.step {bs : List TBlk} {S : List Nat} {ts : List TBlk} (h : CutOf bs S ts) {m o k : Nat} (ho : o < ts.length) (hpar : S.getD o 0 = (tb bs m).par) : CutOf bs (S ++ [m]) (layB ts (tb bs m).root o (tb bs m).slot k) := by
  have hl := h.len
  have old := root_lay ts (tb bs m).root o (tb bs m).slot k
  have new : tb (layB ts (tb bs m).root o (tb bs m).slot k) S.length = ⟨(tb bs m).root, o, (tb bs m).slot, (tb ts o).high + 1, []⟩ := by rw [tb_lay, if_neg (by omega), if_pos (by omega)]
  have c2 : ∀ q, q < (S ++ [m]).length → q < S.length ∨ q = S.length := fun q hq => by simp at hq; omega
  refine ⟨by rw [layB_len]; simp [hl], fun q hq => ?_, fun q hq => ?_, fun q h0 hq => ?_⟩
  · rcases c2 q hq with h1 | rfl
    · rw [(old q (by omega)).1, getD_snoc_lt h1]; exact h.root q h1
    · rw [new, getD_snoc_eq]
  · rcases c2 q hq with h1 | rfl
    · rw [(old q (by omega)).2.2.1, getD_snoc_lt h1]; exact h.slot q h1
    · rw [new, getD_snoc_eq]
  · rcases c2 q hq with h1 | rfl
    · obtain ⟨a1, a2⟩ := h.par q h0 h1
      rw [(old q (by omega)).2.1, getD_snoc_lt h1, getD_snoc_lt a1]
      exact ⟨by simp; omega, a2⟩
    · rw [new, getD_snoc_eq]
      refine ⟨?_, ?_⟩
      · show o < _
        rw [List.length_append]
        omega
      · show (S ++ [m]).getD o 0 = _
        rw [getD_snoc_lt (by omega)]
        exact hpar
/-- one that is not among them is not there -/
theorem CutOf.none {bs : List TBlk} {S : List Nat} {ts : List TBlk} (h : CutOf bs S ts) (hO : TOk bs) (hS : ∀ i ∈ S, i < bs.length) {m : Nat} (hm : m < bs.length) (hn : m ∉ S) : idx ts (tb bs m).root = none := by
  cases hx : idx ts (tb bs m).root with
  | none => rfl
  | some q =>
    obtain ⟨h1, h2⟩ := idx_some hx
    rw [h.len] at h1
    rw [h.root q h1] at h2
    have hq : S.getD q 0 ∈ S := by rw [List.getD_eq_getElem?_getD, List.getElem?_eq_getElem h1]; exact List.getElem_mem h1
    have := hO.one _ _ (hS _ hq) hm h2
    rw [this] at hq
    exact absurd hq hn
theorem getD_mem {S : List Nat} {q : Nat} (h : q < S.length) : S.getD q 0 ∈ S := by rw [List.getD_eq_getElem?_getD, List.getElem?_eq_getElem h]; exact List.getElem_mem h
theorem SL_nodup (bs : List TBlk) (b m : Nat) : (SL bs b m).Nodup := by
  rw [SL, List.nodup_cons]
  refine ⟨by simp, (List.nodup_range (n := m)).filter _⟩
/-- heights, behind a cut -/
theorem CutOf.high {bs : List TBlk} {b : Nat} {ts : List TBlk} (h : CutOf bs (SL bs b bs.length) ts) (hO : TOk bs) (hT : TOk ts) (hb : b < bs.length) : ∀ q, q < ts.length → (tb ts q).high + (tb bs b).high = (tb bs ((SL bs b bs.length).getD q 0)).high := by
  intro q
  induction q using Nat.strongRecOn with
  | _ q ih =>
    intro hq
    have hl := h.len
    by_cases h0 : q = 0
    · subst h0
      rw [hT.high0]
      simp [SL]
    · have hp := hT.par q (by omega) hq
      obtain ⟨a1, a2⟩ := h.par q (by omega) (by omega)
      have hs := hT.step q (by omega) hq
      have ihp := ih _ hp (by omega)
      rw [a2] at ihp
      have hm := mem_SL.1 (getD_mem (S := SL bs b bs.length) (q := q) (by omega))
      have hne : (SL bs b bs.length).getD q 0 ≠ b := fun e => by
        have h1 : q < (SL bs b bs.length).length := by omega
        have h2 : 0 < (SL bs b bs.length).length := by omega
        have e0 : (SL bs b bs.length)[q] = (SL bs b bs.length)[0] := by
          rw [List.getD_eq_getElem?_getD, List.getElem?_eq_getElem h1] at e
          exact e
        have := (List.getElem_inj (SL_nodup bs b bs.length)).1 e0
        omega
      rcases hm with hm | ⟨m1, m2, m3⟩
      · exact absurd hm hne
      · have := stands_ge m3
        have hst := hO.step _ (by omega) m1
        omega
/-- of a root that is left: where it was -/
theorem CutOf.back {bs : List TBlk} {b : Nat} {ts : List TBlk} (h : CutOf bs (SL bs b bs.length) ts) (hO : TOk bs) (hT : TOk ts) (hb : b < bs.length) {q : Nat} (hq : q < ts.length) :
    ∃ i, idx bs (tb ts q).root = some i ∧ (tb bs i).slot = (tb ts q).slot ∧ (tb bs i).high = (tb ts q).high + (tb bs b).high ∧ ((tb ts q).root ≠ (tb bs b).root → (tb bs (tb bs i).par).root = (tb ts (tb ts q).par).root) := by
  have hl := h.len
  have hm := mem_SL.1 (getD_mem (S := SL bs b bs.length) (q := q) (by omega))
  have hi : (SL bs b bs.length).getD q 0 < bs.length := by
    rcases hm with e | ⟨e, _⟩
    · rw [e]; exact hb
    · exact e
  refine ⟨(SL bs b bs.length).getD q 0, ?_, (h.slot q (by omega)).symm, (h.high hO hT hb q hq).symm, fun hne => ?_⟩
  · rw [h.root q (by omega)]
    exact idx_of hO hi
  · have h0 : 0 < q := by
      rcases Nat.eq_zero_or_pos q with e | e
      · subst e
        rw [h.root 0 (by omega)] at hne
        exact absurd (by simp [SL]) hne
      · exact e
    obtain ⟨a1, a2⟩ := h.par q h0 (by omega)
    rw [h.root _ a1, a2]
/-- what is gone is not left -/
theorem CutOf.gone {bs : List TBlk} {b : Nat} {ts : List TBlk} (h : CutOf bs (SL bs b bs.length) ts) (hO : TOk bs) (hb : b < bs.length) {x : Int} (hx : x ∈ GL bs b bs.length) : idx ts x = Option.none ∧ U64 x := by
  simp only [GL, List.mem_map, List.mem_filter, List.mem_range, decide_eq_true_eq] at hx
  obtain ⟨i, ⟨hi, hc⟩, rfl⟩ := hx
  refine ⟨h.none hO (fun j hj => ?_) hi (fun hj => ?_), hO.root i hi⟩
  · rcases mem_SL.1 hj with e | ⟨e, _⟩
    · rw [e]; exact hb
    · exact e
  · rcases mem_SL.1 hj with e | ⟨_, _, e⟩
    · rw [e] at hc; exact hc (stands_self bs b)
    · exact hc e
end Go.Proofs.Ytfkabmgbcdoijaa

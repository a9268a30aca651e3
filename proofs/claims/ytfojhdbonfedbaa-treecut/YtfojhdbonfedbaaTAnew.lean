/- What was cut off is laid anew: plain facts. -/
import Derived.Test.YtfojhdbonfedbaaTTwo

namespace Go.Proofs.Ytfojhdbonfedbaa

open Go.ChangeShapes Go.WideShapes Go.ChangeAt Go.RowKit

set_option linter.unusedVariables false

theorem owns_keep {w w' : World} {base e size n : Nat} {v : Value} {xs : List Value} (h : w.ownsRow base e size v n xs) (k : ∀ g, v.ownBlock = some g → w'.heap[g]? = w.heap[g]?) : w'.ownsRow base e size v n xs := by
  refine ⟨h.1, ?_⟩
  rcases h.2 with ⟨rfl, h0⟩ | ⟨g, cap, cur, rfl, h1, h2, h3⟩
  · exact .inl ⟨rfl, h0⟩
  · exact .inr ⟨g, cap, cur, rfl, h1, (k g rfl).trans h2, h3⟩
/-- what was gone from k on is still not there; the first one is R, early -/
structure Anew (ts : List TBlk) (R : Int) (gs : List Int) (n k : Nat) : Prop where
  ok : TOk ts
  first : idx ts R = some 0
  early : (tb ts 0).slot < 40
  len : ts.length = n + k
  gone : ∀ t, k ≤ t → t < gs.length → idx ts (gs.getD t 0) = none
theorem Anew.start {bs ts : List TBlk} {b : Nat} {R : Int} (hS : Small bs) (hT : TOk ts) (hC : CutOf bs (SL bs b bs.length) ts) (hb : b < bs.length) (hr : (tb bs b).root = R) : Anew ts R (rise (GL bs b bs.length)) ts.length 0 := by
  have h0 : (tb ts 0).root = R := by
    rw [hC.root 0 (by simp [SL]), ← hr]
    simp [SL]
  refine ⟨hT, ?_, ?_, rfl, fun t _ ht => ?_⟩
  · rw [← h0]; exact idx_of hT hT.pos
  · rw [hC.slot 0 (by simp [SL])]
    have : (SL bs b bs.length).getD 0 0 = b := by simp [SL]
    rw [this]
    exact hS.slot b hb
  · have hm : (rise (GL bs b bs.length)).getD t 0 ∈ GL bs b bs.length := by
      rw [← (rise_perm (GL bs b bs.length)).mem_iff, List.getD_eq_getElem?_getD, List.getElem?_eq_getElem ht]
      exact List.getElem_mem ht
    exact (hC.gone hS.ok hb hm).1
theorem rise_nodup {zs : List Int} (h : zs.Nodup) : (rise zs).Nodup := (rise_perm zs).nodup_iff.2 h
theorem gone_u64 {bs : List TBlk} {b t : Nat} (hO : TOk bs) (ht : t < (rise (GL bs b bs.length)).length) : U64 ((rise (GL bs b bs.length)).getD t 0) := by
  have hm : (rise (GL bs b bs.length)).getD t 0 ∈ GL bs b bs.length := by
    rw [← (rise_perm (GL bs b bs.length)).mem_iff, List.getD_eq_getElem?_getD, List.getElem?_eq_getElem ht]
    exact List.getElem_mem ht
  generalize (rise (GL bs b bs.length)).getD t 0 = x at hm ⊢
  simp only [GL, List.mem_map, List.mem_filter, List.mem_range, decide_eq_true_eq] at hm
  obtain ⟨i, ⟨hi, hc⟩, e⟩ := hm
  rw [← e]
  exact hO.root i hi
theorem Anew.zero {ts : List TBlk} {R : Int} {gs : List Int} {n k : Nat} (h : Anew ts R gs n k) (hk : k < gs.length) (hl : n + k < 1024) : addE ts (gs.getD k 0) R 1000 = 0 := by
  unfold addE
  rw [h.gone k (Nat.le_refl _) hk, h.first]
  simp only
  have := h.early
  rw [if_neg (by omega), if_neg (by rw [h.len]; omega)]
theorem Anew.next {ts ts' : List TBlk} {R : Int} {gs : List Int} {n k : Nat} (h : Anew ts R gs n k) (hk : k < gs.length) (hl : n + k < 1024) (hU : U64 (gs.getD k 0)) (hnd : gs.Nodup) (hN : Next ts (gs.getD k 0) R 1000 ts') : Anew ts' R gs n (k + 1) := by
  have hok := hN.ok h.ok hU (by unfold I64; omega)
  have hz := h.zero hk hl
  rcases hN with ⟨h0, _⟩ | ⟨_, o, i, h1, h2, h3, h4, h5, h6, rfl⟩
  · exact absurd hz h0
  · have hx := idx_lay ts (gs.getD k 0) o 1000 i h2
    refine ⟨hok, ?_, ?_, by rw [layB_len, h.len]; omega, fun t ht htl => ?_⟩
    · rw [hx, if_neg (fun e => ?_)]
      · exact h.first
      · rw [← e, h.first] at h2
        cases h2
    · rw [(root_lay ts _ o 1000 i 0 h.ok.pos).2.2.1]
      exact h.early
    · rw [hx, if_neg (fun e => ?_)]
      · exact h.gone t (by omega) htl
      · rw [List.getD_eq_getElem?_getD, List.getD_eq_getElem?_getD, List.getElem?_eq_getElem htl, List.getElem?_eq_getElem hk] at e
        have := (List.getElem_inj hnd).1 e
        omega
end Go.Proofs.Ytfojhdbonfedbaa

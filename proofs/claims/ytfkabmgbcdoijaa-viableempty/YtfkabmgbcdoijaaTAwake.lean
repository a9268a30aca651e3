/- The document's examples of layer 9. -/
import Derived.Test.YtfkabmgbcdoijaaTOne

namespace Go.Proofs.Ytfkabmgbcdoijaa

open Go.ChangeShapes Go.WideShapes Go.ChangeAt Go.RowKit

set_option linter.unusedVariables false

/-- the tree of the examples -/
def ex1 : List TBlk := layB (tOne 1 0) 2 0 3 0
def ex2 : List TBlk := layB ex1 3 1 5 0
def ex3 (k : Nat) : List TBlk := layB ex2 4 0 4 k
theorem ex_next1 {bs : List TBlk} (h : Next (tOne 1 0) 2 1 3 bs) : bs = ex1 := by
  rcases h with ⟨h, _⟩ | ⟨_, o, k, h1, _, _, _, h5, _, rfl⟩
  · exact absurd (by decide) h
  · have : o = 0 := Option.some.inj (h1.symm.trans (by rfl))
    subst this
    have hk : k = 0 := Nat.le_zero.1 h5
    subst hk
    rfl
theorem ex_next2 {bs : List TBlk} (h : Next ex1 3 2 5 bs) : bs = ex2 := by
  rcases h with ⟨h, _⟩ | ⟨_, o, k, h1, _, _, _, h5, _, rfl⟩
  · exact absurd (by decide) h
  · have : o = 1 := Option.some.inj (h1.symm.trans (by rfl))
    subst this
    have hk : k = 0 := Nat.le_zero.1 h5
    subst hk
    rfl
theorem ex_next3 {bs : List TBlk} (h : Next ex2 4 1 4 bs) : ∃ k, (k ≤ 1 ∧ Spot (tb ex2 0).kids 4 k k) ∧ bs = ex3 k := by
  rcases h with ⟨h, _⟩ | ⟨_, o, k, h1, _, _, _, h5, h6, rfl⟩
  · exact absurd (by decide) h
  · have : o = 0 := Option.some.inj (h1.symm.trans (by rfl))
    subst this
    exact ⟨k, ⟨h5, h6⟩, rfl⟩
theorem u_lit {n : Int} (h : (0 ≤ n ∧ n ≤ 100) = True) : U64 n := by unfold U64; have := of_eq_true h; omega
theorem i_lit {n : Int} (h : (0 ≤ n ∧ n ≤ 100) = True) : I64 n := by unfold I64; have := of_eq_true h; omega
theorem ex1_ok : TOk ex1 := layB_ok (tOne_ok (u_lit (by simp)) (i_lit (by simp))) (by rfl) (u_lit (by simp)) (i_lit (by simp)) (by decide) (by decide) (by decide) (Spot.zero [] 2)
theorem ex2_ok : TOk ex2 := layB_ok ex1_ok (by rfl) (u_lit (by simp)) (i_lit (by simp)) (by decide) (by decide) (by decide) (Spot.zero [] 3)
theorem ex3_ok {k : Nat} (h : k ≤ 1 ∧ Spot (tb ex2 0).kids 4 k k) : TOk (ex3 k) := layB_ok ex2_ok (by rfl) (u_lit (by simp)) (i_lit (by simp)) (by decide) (by decide) h.1 h.2

theorem ex_tb (k : Nat) : (tb (ex3 k) 0).root = 1 ∧ (tb (ex3 k) 1).root = 2 ∧ (tb (ex3 k) 2).root = 3 ∧ (tb (ex3 k) 3).root = 4 ∧ (tb (ex3 k) 1).par = 0 ∧ (tb (ex3 k) 2).par = 1 ∧ (tb (ex3 k) 3).par = 0 ∧ (tb (ex3 k) 0).slot = 0 ∧ (tb (ex3 k) 1).slot = 3 ∧ (tb (ex3 k) 2).slot = 5 := ⟨rfl, rfl, rfl, rfl, rfl, rfl, rfl, rfl, rfl, rfl⟩
theorem ex_idx (k : Nat) : idx (ex3 k) 3 = some 2 ∧ idx (ex3 k) 4 = some 3 ∧ idx (ex3 k) 2 = some 1 := ⟨rfl, rfl, rfl⟩
theorem ex_at (k : Nat) : atR (ex3 k) 3 4 = 2 := by
  have e := ex_tb k
  have h : late (ex3 k) 4 2 = 1 := by
    rw [late, dif_pos ⟨by omega, by rw [e.2.2.2.2.2.2.2.2.2]; omega, by rw [e.2.2.2.2.2.1]; omega⟩, e.2.2.2.2.2.1, late, dif_neg (fun h => by rw [e.2.2.2.2.2.2.2.2.1] at h; omega)]
  rw [atR_some (ex_idx k).1, h, e.2.1]
theorem ex_below (k : Nat) : belowB (ex3 k) 3 4 = false := by
  unfold belowB
  rw [(ex_idx k).1, (ex_idx k).2.1]
  show decide (climb (ex3 k) 3 2 = 3) = false
  rw [climb_stop (by omega)]
  rfl
theorem ex_climb (k : Nat) : ¬ climb (ex3 k) 1 0 = 1 ∧ climb (ex3 k) 1 2 = 1 ∧ ¬ climb (ex3 k) 1 3 = 1 := by
  have e := ex_tb k
  refine ⟨by rw [climb_stop (by omega)]; omega, ?_, ?_⟩
  · rw [climb_go (by omega) (by rw [e.2.2.2.2.2.1]; omega), e.2.2.2.2.2.1, climb_stop (by omega)]
  · rw [climb_go (by omega) (by rw [e.2.2.2.2.2.2.1]; omega), e.2.2.2.2.2.2.1, climb_stop (by omega)]
    omega
theorem ex_gone (k : Nat) : rise (GL (ex3 k) 1 (ex3 k).length) = [1, 4] := by
  have hl : (ex3 k).length = 4 := by simp [ex3, ex2, ex1, layB_len, tOne]
  obtain ⟨c0, c2, c3⟩ := ex_climb k
  have e := ex_tb k
  have h : GL (ex3 k) 1 4 = [1, 4] := by
    rw [GL_out (m := 3) c3, GL_in (m := 2) c2, GL_in (m := 1) (stands_self _ _), GL_out (m := 0) c0, GL_zero, e.1, e.2.2.2.1]
    rfl
  rw [hl, h]
  have hp := rise_perm [1, 4]
  have hs := rise_le [1, 4]
  have hl2 := rise_len [1, 4]
  match h2 : rise [1, 4], hl2 with
  | [a, b], _ =>
    rw [h2] at hp hs
    have hab : a ≤ b := by
      have := List.pairwise_cons.1 hs
      exact this.1 b (by simp)
    have h1 : (1 : Int) ∈ [a, b] := hp.symm.subset (by simp)
    have h4 : (4 : Int) ∈ [a, b] := hp.symm.subset (by simp)
    simp at h1 h4
    have : a = 1 ∧ b = 4 := by omega
    rw [this.1, this.2]

end Go.Proofs.Ytfkabmgbcdoijaa

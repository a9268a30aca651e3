/- Lines of blocks: plain facts. -/
import Derived.Test.YtljdlijgjhknjaaTAwake

namespace Go.Proofs.Ytljdlijgjhknjaa

open Go.RowKit

set_option linter.unusedVariables false

/-- a line of i blocks: 1, 2, .. at slots 0, 2, .. -/
structure IsLine (bs : List TBlk) (i : Nat) : Prop where
  ok : TOk bs
  len : bs.length = i
  blk : ∀ j, j < i → (tb bs j).root = (j : Int) + 1 ∧ (tb bs j).par = j - 1 ∧ (tb bs j).slot = 2 * (j : Int)
theorem IsLine.one : IsLine (tOne 1 0) 1 := ⟨tOne_ok (u_lit (by simp)) (i_lit (by simp)), rfl, fun j hj => by
  have : j = 0 := by omega
  subst this
  exact ⟨rfl, rfl, rfl⟩⟩
theorem IsLine.idx {bs : List TBlk} {i j : Nat} (h : IsLine bs i) (hj : j < i) : idx bs ((j : Int) + 1) = some j := by
  have := idx_of h.ok (i := j) (by rw [h.len]; exact hj)
  rwa [(h.blk j hj).1] at this
theorem IsLine.new {bs : List TBlk} {i : Nat} (h : IsLine bs i) : Go.Proofs.Ytljdlijgjhknjaa.idx bs ((i : Int) + 1) = none := by
  cases hx : Go.Proofs.Ytljdlijgjhknjaa.idx bs ((i : Int) + 1) with
  | none => rfl
  | some j =>
    obtain ⟨h1, h2⟩ := idx_some hx
    rw [h.len] at h1
    rw [(h.blk j h1).1] at h2
    omega
theorem IsLine.next {bs bs' : List TBlk} {i : Nat} (h : IsLine bs i) (hi : 1 ≤ i) (hl : i ≤ 100) (hn : Next bs ((i : Int) + 1) (i : Int) (2 * (i : Int)) bs') : addE bs ((i : Int) + 1) (i : Int) (2 * (i : Int)) = 0 ∧ IsLine bs' (i + 1) := by
  have e1 := h.new
  have e2 := h.idx (j := i - 1) (by omega)
  rw [show ((i - 1 : Nat) : Int) + 1 = (i : Int) by omega] at e2
  have hs := (h.blk (i - 1) (by omega)).2.2
  have hE : addE bs ((i : Int) + 1) (i : Int) (2 * (i : Int)) = 0 := by
    unfold addE
    rw [e1, e2]
    simp only
    rw [if_neg (by rw [hs]; omega), if_neg (by rw [h.len]; omega)]
  refine ⟨hE, ?_⟩
  have hok := hn.ok h.ok (by unfold U64; omega) (by unfold I64; omega)
  rcases hn with ⟨h0, _⟩ | ⟨_, o, k, h1, h2, h3, h4, h5, h6, rfl⟩
  · exact absurd hE h0
  · rw [e2] at h1
    obtain rfl := Option.some.inj h1
    refine ⟨hok, by rw [layB_len, h.len], fun j hj => ?_⟩
    by_cases hji : j < i
    · obtain ⟨a1, a2, a3, _⟩ := root_lay bs ((i : Int) + 1) (i - 1) (2 * (i : Int)) k j (by rw [h.len]; exact hji)
      rw [a1, a2, a3]
      exact h.blk j hji
    · have : j = i := by omega
      subst this
      rw [tb_lay, h.len, if_neg (by omega), if_pos rfl]
      exact ⟨rfl, rfl, rfl⟩
theorem IsLine.climb {bs : List TBlk} {i b : Nat} (h : IsLine bs i) : ∀ t, b ≤ t → t < i → climb bs b t = b := by
  intro t
  induction t using Nat.strongRecOn with
  | _ t ih =>
    intro h1 h2
    have hp := (h.blk t h2).2.1
    by_cases e : b < t
    · rw [climb_go e (by rw [hp]; omega), hp]
      exact ih (t - 1) (by omega) (by omega) (by omega)
    · rw [climb_stop e]; omega
theorem IsLine.below {bs : List TBlk} {i : Nat} (h : IsLine bs i) {t b : Nat} (ht : t < i) (hb : b < i) : belowB bs ((t : Int) + 1) ((b : Int) + 1) = decide (b ≤ t) := by
  unfold belowB
  rw [h.idx ht, h.idx hb]
  simp only
  by_cases e : b ≤ t
  · rw [h.climb t e ht]; simp [e]
  · rw [climb_stop (by omega)]
    simp [e]
    omega
theorem IsLine.late {bs : List TBlk} {i s : Nat} (h : IsLine bs i) : ∀ t, t < i → late bs (s : Int) t = min (s / 2) t := by
  intro t
  induction t using Nat.strongRecOn with
  | _ t ih =>
    intro h2
    obtain ⟨_, hp, hs⟩ := h.blk t h2
    by_cases e : 0 < t ∧ (s : Int) < (tb bs t).slot
    · rw [Go.Proofs.Ytljdlijgjhknjaa.late, dif_pos ⟨e.1, e.2, by rw [hp]; omega⟩, hp, ih (t - 1) (by omega) (by omega)]
      rw [hs] at e
      omega
    · rw [Go.Proofs.Ytljdlijgjhknjaa.late, dif_neg (fun x => e ⟨x.1, x.2.1⟩)]
      rw [hs] at e
      omega
theorem IsLine.at {bs : List TBlk} {i : Nat} (h : IsLine bs i) {t s : Nat} (ht : t < i) : atR bs ((t : Int) + 1) (s : Int) = ((min (s / 2) t : Nat) : Int) + 1 := by
  rw [atR_some (h.idx ht), h.late t ht]
  exact (h.blk _ (by omega)).1
end Go.Proofs.Ytljdlijgjhknjaa

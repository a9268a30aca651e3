/- Plain facts on what counts of an event: it has bytes if the event has, and the same ones. -/
import Derived.Test.YtdigpjfgjlhhjaaBBare

namespace Go.Proofs.Ytdigpjfgjlhhjaa

open Go.ChangeShapes Go.WideShapes Go.ChangeAt Go.RowKit

set_option linter.unusedVariables false

theorem bareX_cases (e : Ev) : (e.kind = 0 ∧ bareX e = ⟨0, e.slot, bkZ, vtZ, pfZ⟩) ∨ (e.kind = 1 ∧ bareX e = ⟨1, 0, e.block, vtZ, pfZ⟩) ∨ (e.kind = 2 ∧ bareX e = ⟨2, 0, bkZ, e.vote, pfZ⟩) ∨ (e.kind = 3 ∧ bareX e = ⟨3, 0, bkZ, vtZ, e.proof⟩) ∨ (e.kind ≠ 0 ∧ e.kind ≠ 1 ∧ e.kind ≠ 2 ∧ e.kind ≠ 3 ∧ bareX e = ⟨e.kind, 0, bkZ, vtZ, pfZ⟩) := by
  by_cases h0 : e.kind = 0
  · exact .inl ⟨h0, by rw [bareX, if_pos h0]⟩
  by_cases h1 : e.kind = 1
  · exact .inr (.inl ⟨h1, by rw [bareX, if_neg h0, if_pos h1]⟩)
  by_cases h2 : e.kind = 2
  · exact .inr (.inr (.inl ⟨h2, by rw [bareX, if_neg h0, if_neg h1, if_pos h2]⟩))
  by_cases h3 : e.kind = 3
  · exact .inr (.inr (.inr (.inl ⟨h3, by rw [bareX, if_neg h0, if_neg h1, if_neg h2, if_pos h3]⟩)))
  · exact .inr (.inr (.inr (.inr ⟨h0, h1, h2, h3, by rw [bareX, if_neg h0, if_neg h1, if_neg h2, if_neg h3]⟩)))
theorem bareX_kind (e : Ev) : (bareX e).kind = e.kind := by
  rcases bareX_cases e with ⟨h, hb⟩ | ⟨h, hb⟩ | ⟨h, hb⟩ | ⟨h, hb⟩ | ⟨_, _, _, _, hb⟩
  all_goals rw [hb]
  all_goals first | exact h.symm | rfl
theorem bareX_slot (e : Ev) : (bareX e).slot = if e.kind = 0 then e.slot else 0 := by
  rcases bareX_cases e with ⟨h, hb⟩ | ⟨h, hb⟩ | ⟨h, hb⟩ | ⟨h, hb⟩ | ⟨h0, _, _, _, hb⟩
  · rw [hb, if_pos h]
  · rw [hb, if_neg (by omega)]
  · rw [hb, if_neg (by omega)]
  · rw [hb, if_neg (by omega)]
  · rw [hb, if_neg h0]
theorem bareX_evB (e : Ev) : evB (bareX e) = evB e := by
  rcases bareX_cases e with ⟨h, hb⟩ | ⟨h, hb⟩ | ⟨h, hb⟩ | ⟨h, hb⟩ | ⟨h0, h1, h2, h3, hb⟩
  · rw [hb]; simp [evB, h]
  · rw [hb]; simp [evB, h]
  · rw [hb]; simp [evB, h]
  · rw [hb]; simp [evB, h]
  · rw [hb]; simp [evB, h0, h1, h2, h3]
theorem bareX_ns (e : Ev) (he : evB e = true) : evNs (bareX e) = evNs e := by
  rcases bareX_cases e with ⟨h, hb⟩ | ⟨h, hb⟩ | ⟨h, hb⟩ | ⟨h, hb⟩ | ⟨h0, h1, h2, h3, hb⟩
  · rw [hb]; simp [evNs, h]
  · rw [hb]; simp [evNs, h]
  · rw [hb]; simp [evNs, h]
  · rw [hb]; simp [evNs, h]
  · simp [evB, h0, h1, h2, h3] at he
end Go.Proofs.Ytdigpjfgjlhhjaa

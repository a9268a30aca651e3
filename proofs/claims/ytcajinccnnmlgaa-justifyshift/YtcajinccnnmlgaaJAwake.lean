/- Layer 8's examples ('awake'). -/
import Derived.Test.YtcajinccnnmlgaaJNext

namespace Go.Proofs.Ytcajinccnnmlgaa

open Go.ChangeShapes Go.WideShapes Go.ChangeAt Go.RowKit

set_option linter.unusedVariables false

set_option maxHeartbeats 1000000 in
theorem awake_any (w : World) : Calls Try.prog 9 #[] w fun e w' => e = .returned (.bool true) ∧ Below w.heap.size w w' := by
  go_enter Try.func9, Try.ntmps9
  go_wp2_with fail
  refine (next_any _ _ _ _ _ _ _ _ _ _ _ _ _ _ _ _ _ _).mono ?_
  rintro e w1 ⟨rfl, hbel⟩
  have HN := hide (((Below.refl _ w).alloc (Nat.le_refl _) _).trans (hbel.mono (by simp)))
  clear hbel
  rw [show nextC true false false 0 0 4 9 0 0 5 false true 0 0 5 8 = scells true true false false 4 9 5 8 4 9 from by kernel_rfl]
  go_wp2
  go_ret
  exact ⟨rfl, HN.out.alloc HN.out.size _⟩
end Go.Proofs.Ytcajinccnnmlgaa

/- The document's examples of layer 2 ('awake'): they hold, and nothing that was there turns. -/
import Derived.Test.YthacjgipdnfkcaaEpEnds
namespace Go.Proofs.Ythacjgipdnfkcaa
open Go.ChangeShapes Go.WideShapes Go.ChangeAt Go.RowKit
set_option linter.unusedVariables false
set_option maxHeartbeats 1000000 in
theorem awake_any (w : World) : Calls Try.prog 9 #[] w fun e w' => e = .returned (.bool true) ∧ Below w.heap.size w w' := by
  have e1 : epo 17 8 = 2 := by decide
  have e2 : wrap64 (lo0 2 * lo1 8) = 16 := by rw [show lo0 2 * lo1 8 = 16 from by decide]; simp [wrap64]
  have hz := ends_some 7 17 8 2 w (by omega) (by omega) (by omega) (by omega) (by decide)
  rw [show run (epo 7 8) 2 = [0, 1] from by decide] at hz
  have HZ := hide hz
  clear hz
  go_enter Try.func9, Try.ntmps9
  go_wp2_with (first
    | (go_at_call 13; refine Calls.mono HZ.out ?_)
    | (go_at_call 10; refine (of_any _ _ _ (by omega) (by omega)).mono ?_; rintro e w' ⟨rfl, hw⟩; obtain rfl : _ = w' := hw.symm; rw [e1])
    | (go_at_call 12; refine (start_any _ _ _ (by omega) (by omega)).mono ?_; rintro e w' ⟨rfl, hw⟩; obtain rfl : _ = w' := hw.symm; rw [e2]))
  rintro e w1 ⟨rfl, hown, hbel⟩
  have c0 : w1.cell? ⟨w.heap.size, 0, none⟩ = some (.int .i64 0) := by rw [hown.cellAt 0 (by omega)]; rfl
  have c1 : w1.cell? ⟨w.heap.size, 1, none⟩ = some (.int .i64 1) := by rw [hown.cellAt 1 (by omega)]; rfl
  have HB := hide hbel
  clear hown hbel HZ
  go_wp2_with (first
    | (go_at_call 10; refine (of_any _ _ _ (by omega) (by omega)).mono ?_; rintro e w' ⟨rfl, hw⟩; obtain rfl : _ = w' := hw.symm; rw [e1])
    | (go_at_call 12; refine (start_any _ _ _ (by omega) (by omega)).mono ?_; rintro e w' ⟨rfl, hw⟩; obtain rfl : _ = w' := hw.symm; rw [e2]))
  go_ret
  exact ⟨rfl, HB.out⟩
end Go.Proofs.Ythacjgipdnfkcaa

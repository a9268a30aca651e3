/- The document's examples of layer 5 ('awake'). -/
import Derived.Test.YtnofpmdnpfijnaaVMake

namespace Go.Proofs.Ytnofpmdnpfijnaa

open Go.ChangeShapes Go.WideShapes Go.ChangeAt Go.RowKit

set_option linter.unusedVariables false

theorem bth_ex : bth [1, 3, 5] [3, 4, 5] = [3, 5] :=
  lt_ext _ _ (bth_lt _ _) (by simp) (fun z => by rw [mem_bth]; simp; omega)

set_option maxHeartbeats 1000000 in
theorem awake_any (w : World) : Calls Try.prog 9 #[] w fun e w' => e = .returned (.bool true) ∧ Below w.heap.size w w' := by
  go_enter Try.func9, Try.ntmps9
  go_wp2_with fail
  refine (both_any [1, 3, 5] [3, 4, 5] _ _ _ _ _ _ _ _ _ _ _ _ _ _ _ _ _ _ _ ?rx ?ry (by omega) (by omega)).mono ?_
  case rx => exact (RowIn.lit .i64 _ _ _ _ _ 3 3 [1, 3, 5] rfl rfl rfl (by simp [maxLen])).alloc _
  case ry => exact RowIn.lit .i64 _ _ _ _ _ 3 3 [3, 4, 5] (by simp) rfl rfl (by simp [maxLen])
  rintro e w1 ⟨v1, rfl, hown, hbel⟩
  rw [bth_ex] at hown
  obtain ⟨ao, d, rfl, hR⟩ := RowIn.ofOwned hown
  obtain ⟨b, off, rfl, _, q0⟩ := hR.cell 0 (by simp)
  obtain ⟨b', off', e', _, q1⟩ := hR.cell 1 (by simp)
  cases e'
  have hcap := hR.cap
  simp at q0 q1 hcap
  have HN := hide ((((Below.refl _ w).alloc (Nat.le_refl _) _).alloc (by simp) _).trans (hbel.mono (by simp; omega)))
  clear hown hbel hR
  go_wp2_with fail
  refine (right_any [0] _ _ _ _ _ _ _ _ _ _ _ _ _ _ _ ?rz (by omega) (by omega)).mono ?_
  case rz => exact RowIn.lit .i64 _ _ _ _ _ 1 1 [0] (by simp) rfl rfl (by simp [maxLen])
  rintro e w2 ⟨rfl, hbel2⟩
  have hv : (whoB [0] ((1 : Nat) : Int) && timesB 0 0 0 4) = true := by decide
  rw [hv]
  have HN2 := hide (((HN.out.alloc (HN.out.size) _).alloc (by have := HN.out.size; simp; omega) _).trans (hbel2.mono (by have := HN.out.size; simp; omega)))
  clear hbel2
  go_wp2
  go_ret
  exact ⟨rfl, HN2.out⟩
end Go.Proofs.Ytnofpmdnpfijnaa

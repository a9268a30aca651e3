/- Layer 11's examples ('awake'). -/
import Derived.Test.YtedpieepfbcboaaEntFun

import Derived.Deep.CutRange

namespace Go.Proofs.Ytedpieepfbcboaa

open Go.ChangeShapes Go.WideShapes Go.ChangeAt Go.RowKit

set_option linter.unusedVariables false

theorem I64e_of {x : Int} (h : -9223372036854775808 ≤ x ∧ x ≤ 9223372036854775807) : I64e x := h
/-- a call that turns one new block -/
theorem turned {B : Nat} {w w1 w2 : World} {g : Nat} (h : Below B w w1) (k : Apart g w1 w2) (hB : B ≤ w1.heap.size) (hg : B ≤ g) : Below B w w2 := h.trans (k.old B hB hg)
abbrev eA0 : List Ent := [Ent.zero, Ent.zero]
abbrev eA1 : List Ent := [⟨true, 3, 7, false⟩, Ent.zero]
abbrev eA2 : List Ent := [⟨true, 3, 7, true⟩, Ent.zero]

set_option maxRecDepth 100000 in
set_option maxHeartbeats 1000000 in
theorem awake_any (w : World) : Calls Try.prog 29 #[] w fun e w' => e = .returned (.bool true) ∧ Below w.heap.size w w' := by
  have h0 : I64e 0 := ⟨by omega, by omega⟩
  have h3 : I64e 3 := ⟨by omega, by omega⟩
  go_enter Try.func29, Try.ntmps29
  go_wp2_with fail
  refine (of_ent 2 w ⟨by omega, by omega⟩).mono ?_
  rintro e w1 ⟨g, rfl, ho, hg, hb⟩
  rw [show sizeE 2 = 2 from rfl] at ho ⊢
  have HO := hide ho
  have HB := hide hb
  have HG := hide hg
  clear ho hb hg
  have T1 := hide (take_any eA0 g 2 0 3 7 w1 HO.out rfl (by omega) h0 h3)
  rw [show takeB eA0 0 3 = true from rfl, show takeE eA0 0 3 7 = eA1 from rfl] at T1
  have T2 := hide (fun w' (h : OAt w' g (eobj eA1)) => take_any eA1 g 2 0 3 8 w' h rfl (by omega) h0 h3)
  rw [show takeB eA1 0 3 = false from rfl, show takeE eA1 0 3 8 = eA1 from rfl] at T2
  have G1 := hide (fun w' (h : OAt w' g (eobj eA1)) => get_any eA1 g 2 0 w' h rfl (by omega) h0)
  rw [show getB' eA1 0 = true from rfl, show getR eA1 0 = 7 from rfl] at G1
  have B1 := hide (fun w' (h : OAt w' g (eobj eA1)) => ban_any eA1 g 2 0 w' h rfl (by omega) h0)
  rw [show ctB eA1 0 = true from rfl, show banE eA1 0 = eA2 from rfl] at B1
  have G2 := hide (fun w' (h : OAt w' g (eobj eA2)) => get_any eA2 g 2 0 w' h rfl (by omega) h0)
  rw [show getB' eA2 0 = false from rfl, show getR eA2 0 = 0 from rfl] at G2
  clear HO
  go_wp2_with fail
  refine T1.out.mono ?_
  rintro e w2 ⟨rfl, ho, ha⟩
  have HO2 := hide ho
  have HB2 := hide (turned HB.out ha HB.out.size HG.out)
  clear ho ha HB T1
  go_wp2_with fail
  refine (T2.out _ HO2.out).mono ?_
  rintro e w3 ⟨rfl, ho, ha⟩
  have HO3 := hide ho
  have HB3 := hide (turned HB2.out ha HB2.out.size HG.out)
  clear ho ha HB2 HO2 T2
  go_wp2_with fail
  refine (G1.out _ HO3.out).mono ?_
  rintro e w' ⟨rfl, hw⟩
  obtain rfl : _ = w' := hw.symm
  go_wp2_with fail
  refine (B1.out _ HO3.out).mono ?_
  rintro e w4 ⟨rfl, ho, ha⟩
  have HO4 := hide ho
  have HB4 := hide (turned HB3.out ha HB3.out.size HG.out)
  clear ho ha HB3 HO3 B1
  go_wp2_with fail
  refine (G2.out _ HO4.out).mono ?_
  rintro e w' ⟨rfl, hw⟩
  obtain rfl : _ = w' := hw.symm
  go_wp2
  go_ret
  exact ⟨rfl, HB4.out⟩
end Go.Proofs.Ytedpieepfbcboaa

/- Contracts of slash.Double, Around and Bad; layer 6's examples ('awake'). -/
import Derived.Test.YtbmajbbgfolmiaaDoorVSame

namespace Go.Proofs.YtbmajbbgfolmiaaDoor

open Go.ChangeShapes Go.WideShapes Go.ChangeAt Go.RowKit

set_option linter.unusedVariables false

/-- two votes that say unlike things for one epoch -/
def dblB (s h se sr te tr s2 h2 se2 sr2 te2 tr2 : Int) : Bool := decide (te = te2) && !sameB s h se sr te tr s2 h2 se2 sr2 te2 tr2
/-- one goes around the other -/
def arnB (se te se2 te2 : Int) : Bool := decide (se < se2 ∧ te2 < te)
def badB (s h se sr te tr s2 h2 se2 sr2 te2 tr2 : Int) : Bool := dblB s h se sr te tr s2 h2 se2 sr2 te2 tr2 || arnB se te se2 te2 || arnB se2 te2 se te
theorem dblB_comm (s h se sr te tr s2 h2 se2 sr2 te2 tr2 : Int) : dblB s h se sr te tr s2 h2 se2 sr2 te2 tr2 = dblB s2 h2 se2 sr2 te2 tr2 s h se sr te tr := by
  unfold dblB
  rw [sameB_comm, decide_eq_decide.2 (show te = te2 ↔ te2 = te from ⟨Eq.symm, Eq.symm⟩)]
theorem badB_comm (s h se sr te tr s2 h2 se2 sr2 te2 tr2 : Int) : badB s h se sr te tr s2 h2 se2 sr2 te2 tr2 = badB s2 h2 se2 sr2 te2 tr2 s h se sr te tr := by
  unfold badB
  rw [dblB_comm, Bool.or_assoc, Bool.or_assoc, Bool.or_comm (arnB _ _ _ _)]
theorem badB_self (s h se sr te tr : Int) : badB s h se sr te tr s h se sr te tr = false := by
  simp [badB, dblB, arnB, sameB_self]

set_option maxRecDepth 100000 in
set_option maxHeartbeats 1000000 in
theorem around_any (s h se sr te tr : Int) (a : Option Addr) (l c : Nat) (s2 h2 se2 sr2 te2 tr2 : Int) (a2 : Option Addr) (l2 c2 : Nat) (w : World) :
    Calls Tryd.prog 14 #[.agg (vcells s h se sr te tr a l c), .agg (vcells s2 h2 se2 sr2 te2 tr2 a2 l2 c2)] w fun e w' =>
      e = .returned (.bool (arnB se te se2 te2)) ∧ Below w.heap.size w w' := by
  by_cases e1 : se < se2
  · go_enter Tryd.func14, Tryd.ntmps14
    go_wp2
    all_goals
      go_ret
      refine ⟨ret_bool ?_, ((Below.refl _ w).alloc (Nat.le_refl _) _).alloc (by simp) _⟩
      simp [arnB, *]
  · go_enter Tryd.func14, Tryd.ntmps14
    go_wp2
    all_goals
      go_ret
      refine ⟨ret_bool ?_, ((Below.refl _ w).alloc (Nat.le_refl _) _).alloc (by simp) _⟩
      rw [arnB, decide_eq_false (by omega)]

set_option maxRecDepth 100000 in
set_option maxHeartbeats 1000000 in
theorem double_any (s h se sr te tr : Int) (a : Option Addr) (l c : Nat) (s2 h2 se2 sr2 te2 tr2 : Int) (a2 : Option Addr) (l2 c2 : Nat) (w : World) :
    Calls Tryd.prog 15 #[.agg (vcells s h se sr te tr a l c), .agg (vcells s2 h2 se2 sr2 te2 tr2 a2 l2 c2)] w fun e w' =>
      e = .returned (.bool (dblB s h se sr te tr s2 h2 se2 sr2 te2 tr2)) ∧ Below w.heap.size w w' := by
  by_cases e1 : te = te2
  · subst e1
    go_enter Tryd.func15, Tryd.ntmps15
    go_wp2_with fail
    refine (same_any _ _ _ _ _ _ _ _ _ _ _ _ _ _ _ _ _ _ _).mono ?_
    rintro e w1 ⟨rfl, hbel⟩
    have HN := hide ((((Below.refl _ w).alloc (Nat.le_refl _) (vobj s h se sr te tr a l c)).alloc (by simp) (vobj s2 h2 se2 sr2 te tr2 a2 l2 c2)).trans (hbel.mono (by simp; omega)))
    clear hbel
    go_wp2
    go_ret
    exact ⟨ret_bool (by rw [dblB, decide_eq_true rfl, Bool.true_and]), HN.out⟩
  · go_enter Tryd.func15, Tryd.ntmps15
    go_wp2
    go_ret
    exact ⟨ret_bool (by rw [dblB, decide_eq_false e1, Bool.false_and]), ((Below.refl _ w).alloc (Nat.le_refl _) _).alloc (by simp) _⟩

set_option maxRecDepth 100000 in
set_option maxHeartbeats 1000000 in
theorem bad_any (s h se sr te tr : Int) (a : Option Addr) (l c : Nat) (s2 h2 se2 sr2 te2 tr2 : Int) (a2 : Option Addr) (l2 c2 : Nat) (w : World) :
    Calls Tryd.prog 12 #[.agg (vcells s h se sr te tr a l c), .agg (vcells s2 h2 se2 sr2 te2 tr2 a2 l2 c2)] w fun e w' =>
      e = .returned (.bool (badB s h se sr te tr s2 h2 se2 sr2 te2 tr2)) ∧ Below w.heap.size w w' := by
  have HA := hide (((VAt.lit w w.heap.size rfl s h se sr te tr a l c).alloc (vobj s2 h2 se2 sr2 te2 tr2 a2 l2 c2)))
  have HB := hide (VAt.lit (w.alloc (vobj s h se sr te tr a l c)) (w.heap.size + 1) (by simp) s2 h2 se2 sr2 te2 tr2 a2 l2 c2)
  have HN := hide (((Below.refl _ w).alloc (Nat.le_refl _) (vobj s h se sr te tr a l c)).alloc (by simp) (vobj s2 h2 se2 sr2 te2 tr2 a2 l2 c2))
  go_enter Tryd.func12, Tryd.ntmps12
  go_wp2_with fail
  refine (double_any _ _ _ _ _ _ _ _ _ _ _ _ _ _ _ _ _ _ _).mono ?_
  rintro e w1 ⟨rfl, hbel⟩
  have HA1 := hide (HA.out.below hbel)
  have HB1 := hide (HB.out.below hbel)
  have HN1 := hide (HN.out.trans (hbel.mono (by simp <;> omega)))
  clear HA HB HN hbel
  obtain ⟨hlt, p0, p1, p2, p3, p4, p5, p6⟩ := HA1.out
  obtain ⟨hlt2, q0, q1, q2, q3, q4, q5, q6⟩ := HB1.out
  obtain ⟨b, hb⟩ : ∃ b, Hid (dblB s h se sr te tr s2 h2 se2 sr2 te2 tr2 = b) := ⟨_, rfl⟩
  rw [hb.out]
  cases b with
  | true =>
    go_wp2
    go_ret
    exact ⟨ret_bool (by rw [badB, hb.out]; rfl), HN1.out⟩
  | false =>
    go_wp2_with fail
    refine (around_any _ _ _ _ _ _ _ _ _ _ _ _ _ _ _ _ _ _ _).mono ?_
    rintro e w2 ⟨rfl, hbel⟩
    have HA2 := hide (HA1.out.below hbel)
    have HB2 := hide (HB1.out.below hbel)
    have HN2 := hide (HN1.out.trans (hbel.mono HN1.out.size))
    clear p0 p1 p2 p3 p4 p5 p6 q0 q1 q2 q3 q4 q5 q6 hlt hlt2 hbel HA1 HB1 HN1
    obtain ⟨hlt, p0, p1, p2, p3, p4, p5, p6⟩ := HA2.out
    obtain ⟨hlt2, q0, q1, q2, q3, q4, q5, q6⟩ := HB2.out
    obtain ⟨b, hb2⟩ : ∃ b, Hid (arnB se te se2 te2 = b) := ⟨_, rfl⟩
    rw [hb2.out]
    cases b with
    | true =>
      go_wp2
      go_ret
      exact ⟨ret_bool (by rw [badB, hb.out, hb2.out]; rfl), HN2.out⟩
    | false =>
      go_wp2_with fail
      refine (around_any _ _ _ _ _ _ _ _ _ _ _ _ _ _ _ _ _ _ _).mono ?_
      rintro e w3 ⟨rfl, hbel⟩
      have HN3 := hide (HN2.out.trans (hbel.mono HN2.out.size))
      clear hbel
      go_wp2
      go_ret
      exact ⟨ret_bool (by rw [badB, hb.out, hb2.out]; rfl), HN3.out⟩

set_option maxRecDepth 100000 in
set_option maxHeartbeats 1000000 in
theorem awake_any (w : World) : Calls Tryd.prog 6 #[] w fun e w' => e = .returned (.bool true) ∧ Below w.heap.size w w' := by
  have HA := hide (((VAt.lit w w.heap.size rfl 0 0 1 0 4 0 none 0 0).alloc (vobj 0 0 2 0 3 0 none 0 0)))
  have HB := hide (VAt.lit (w.alloc (vobj 0 0 1 0 4 0 none 0 0)) (w.heap.size + 1) (by simp) 0 0 2 0 3 0 none 0 0)
  have HN := hide (((Below.refl _ w).alloc (Nat.le_refl _) (vobj 0 0 1 0 4 0 none 0 0)).alloc (by simp) (vobj 0 0 2 0 3 0 none 0 0))
  go_enter Tryd.func6, Tryd.ntmps6
  go_wp2_with fail
  refine (around_any _ _ _ _ _ _ _ _ _ _ _ _ _ _ _ _ _ _ _).mono ?_
  rintro e w1 ⟨rfl, hbel⟩
  have HA1 := hide (HA.out.below hbel)
  have HB1 := hide (HB.out.below hbel)
  have HN1 := hide (HN.out.trans (hbel.mono (by simp <;> omega)))
  clear HA HB HN hbel
  obtain ⟨hlt, p0, p1, p2, p3, p4, p5, p6⟩ := HA1.out
  obtain ⟨hlt2, q0, q1, q2, q3, q4, q5, q6⟩ := HB1.out
  rw [show arnB 1 4 2 3 = true from rfl]
  go_wp2_with fail
  refine (around_any _ _ _ _ _ _ _ _ _ _ _ _ _ _ _ _ _ _ _).mono ?_
  rintro e w2 ⟨rfl, hbel⟩
  have HA2 := hide (HA1.out.below hbel)
  have HB2 := hide (HB1.out.below hbel)
  have HN2 := hide (HN1.out.trans (hbel.mono HN1.out.size))
  clear p0 p1 p2 p3 p4 p5 p6 q0 q1 q2 q3 q4 q5 q6 hlt hlt2 hbel HA1 HB1 HN1
  obtain ⟨hlt, p0, p1, p2, p3, p4, p5, p6⟩ := HA2.out
  obtain ⟨hlt2, q0, q1, q2, q3, q4, q5, q6⟩ := HB2.out
  rw [show arnB 2 3 1 4 = false from rfl]
  go_wp2_with fail
  refine (bad_any _ _ _ _ _ _ _ _ _ _ _ _ _ _ _ _ _ _ _).mono ?_
  rintro e w3 ⟨rfl, hbel⟩
  have HA3 := hide (HA2.out.below hbel)
  have HB3 := hide (HB2.out.below hbel)
  have HN3 := hide (HN2.out.trans (hbel.mono HN2.out.size))
  clear p0 p1 p2 p3 p4 p5 p6 q0 q1 q2 q3 q4 q5 q6 hlt hlt2 hbel HA2 HB2 HN2
  obtain ⟨hlt, p0, p1, p2, p3, p4, p5, p6⟩ := HA3.out
  obtain ⟨hlt2, q0, q1, q2, q3, q4, q5, q6⟩ := HB3.out
  rw [show badB 0 0 2 0 3 0 0 0 1 0 4 0 = true from rfl]
  go_wp2_with fail
  refine (double_any _ _ _ _ _ _ _ _ _ _ _ _ _ _ _ _ _ _ _).mono ?_
  rintro e w4 ⟨rfl, hbel⟩
  have HN4 := hide (HN3.out.trans (hbel.mono HN3.out.size))
  clear hbel
  rw [show dblB 0 0 1 0 4 0 0 0 2 0 3 0 = false from rfl]
  go_wp2
  go_ret
  exact ⟨rfl, HN4.out⟩
end Go.Proofs.YtbmajbbgfolmiaaDoor

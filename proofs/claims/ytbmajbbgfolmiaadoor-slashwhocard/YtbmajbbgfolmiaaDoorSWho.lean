/- Contract of slash.Who: whom a proof shows, in memory of the call's own. -/
import Derived.Test.YtbmajbbgfolmiaaDoorVAt

import Derived.Test.YtbmajbbgfolmiaaDoorSBad

import Derived.Test.YtbmajbbgfolmiaaDoorANumb2

namespace Go.Proofs.YtbmajbbgfolmiaaDoor

open Go.ChangeShapes Go.WideShapes Go.ChangeAt Go.RowKit

set_option linter.unusedVariables false

/-- a proof, as it is handed over, and as it is laid -/
abbrev pcells (s h se sr te tr : Int) (a : Option Addr) (l c : Nat) (s2 h2 se2 sr2 te2 tr2 : Int) (a2 : Option Addr) (l2 c2 : Nat) : Array Value := #[.int .i64 s, .int .u64 h, .int .i64 se, .int .u64 sr, .int .i64 te, .int .u64 tr, .slice a l c, .int .i64 s2, .int .u64 h2, .int .i64 se2, .int .u64 sr2, .int .i64 te2, .int .u64 tr2, .slice a2 l2 c2]
abbrev pobj (s h se sr te tr : Int) (a : Option Addr) (l c : Nat) (s2 h2 se2 sr2 te2 tr2 : Int) (a2 : Option Addr) (l2 c2 : Nat) : Obj := .cells (pcells s h se sr te tr a l c s2 h2 se2 sr2 te2 tr2 a2 l2 c2) 39
structure PAt (w : World) (b : Nat) (s h se sr te tr : Int) (a : Option Addr) (l c : Nat) (s2 h2 se2 sr2 te2 tr2 : Int) (a2 : Option Addr) (l2 c2 : Nat) : Prop where
  lt : b < w.heap.size
  k0 : w.cell? ⟨b, 0, none⟩ = some (.int .i64 s)
  k1 : w.cell? ⟨b, 1, none⟩ = some (.int .u64 h)
  k2 : w.cell? ⟨b, 2, none⟩ = some (.int .i64 se)
  k3 : w.cell? ⟨b, 3, none⟩ = some (.int .u64 sr)
  k4 : w.cell? ⟨b, 4, none⟩ = some (.int .i64 te)
  k5 : w.cell? ⟨b, 5, none⟩ = some (.int .u64 tr)
  k6 : w.cell? ⟨b, 6, none⟩ = some (.slice a l c)
  k7 : w.cell? ⟨b, 7, none⟩ = some (.int .i64 s2)
  k8 : w.cell? ⟨b, 8, none⟩ = some (.int .u64 h2)
  k9 : w.cell? ⟨b, 9, none⟩ = some (.int .i64 se2)
  k10 : w.cell? ⟨b, 10, none⟩ = some (.int .u64 sr2)
  k11 : w.cell? ⟨b, 11, none⟩ = some (.int .i64 te2)
  k12 : w.cell? ⟨b, 12, none⟩ = some (.int .u64 tr2)
  k13 : w.cell? ⟨b, 13, none⟩ = some (.slice a2 l2 c2)
theorem PAt.below {w w' : World} {b : Nat} {s h se sr te tr : Int} {a : Option Addr} {l c : Nat} {s2 h2 se2 sr2 te2 tr2 : Int} {a2 : Option Addr} {l2 c2 : Nat} (hv : PAt w b s h se sr te tr a l c s2 h2 se2 sr2 te2 tr2 a2 l2 c2) (hb : Below w.heap.size w w') : PAt w' b s h se sr te tr a l c s2 h2 se2 sr2 te2 tr2 a2 l2 c2 := by
  have hc : ∀ i, w'.cell? ⟨b, i, none⟩ = w.cell? ⟨b, i, none⟩ := fun i => hb.cell (p := ⟨b, i, none⟩) hv.lt
  exact ⟨Nat.lt_of_lt_of_le hv.lt hb.size, by rw [hc]; exact hv.k0, by rw [hc]; exact hv.k1, by rw [hc]; exact hv.k2, by rw [hc]; exact hv.k3, by rw [hc]; exact hv.k4, by rw [hc]; exact hv.k5, by rw [hc]; exact hv.k6, by rw [hc]; exact hv.k7, by rw [hc]; exact hv.k8, by rw [hc]; exact hv.k9, by rw [hc]; exact hv.k10, by rw [hc]; exact hv.k11, by rw [hc]; exact hv.k12, by rw [hc]; exact hv.k13⟩
theorem PAt.lit (w : World) (b : Nat) (hb : b = w.heap.size) (s h se sr te tr : Int) (a : Option Addr) (l c : Nat) (s2 h2 se2 sr2 te2 tr2 : Int) (a2 : Option Addr) (l2 c2 : Nat) : PAt (w.alloc (pobj s h se sr te tr a l c s2 h2 se2 sr2 te2 tr2 a2 l2 c2)) b s h se sr te tr a l c s2 h2 se2 sr2 te2 tr2 a2 l2 c2 := by
  subst hb
  constructor <;> simp [go_sem]

/-- does a proof show somebody? -/
def shows (n : Int) (slots : Int) (s h se sr te tr : Int) (xs : List Int) (s2 h2 se2 sr2 te2 tr2 : Int) (ys : List Int) : Bool :=
  (whoB xs n && timesB s se te slots) && (whoB ys n && timesB s2 se2 te2 slots) && badB s h se sr te tr s2 h2 se2 sr2 te2 tr2 && decide (0 < (bth xs ys).length)
def shown (b : Bool) (zs : List Int) : List Int := if b then zs else []
def errP (b : Bool) : Value := if b then .nilIface else .iface 43 (.int .i64 11)

set_option maxRecDepth 100000 in
set_option maxHeartbeats 4000000 in
theorem swho_any (xs ys : List Int) (ab : Option Addr) (lb cb : Nat) (slots boost : Int) (s h se sr te tr : Int) (a : Option Addr) (l c : Nat) (s2 h2 se2 sr2 te2 tr2 : Int) (a2 : Option Addr) (l2 c2 : Nat) (w : World)
    (hX : RowIn .i64 w a l c xs) (hY : RowIn .i64 w a2 l2 c2 ys) (hl : l * 8 ≤ 140737488355328) (hl2 : l2 * 8 ≤ 140737488355328)
    (hs : -9223372036854775808 ≤ s ∧ s ≤ 9223372036854775807) (hs2 : -9223372036854775808 ≤ s2 ∧ s2 ≤ 9223372036854775807) (hS : -9223372036854775808 ≤ slots ∧ slots ≤ 9223372036854775807) :
    Calls Tryd.prog 9 #[.agg #[.slice ab lb cb, .int .i64 slots, .int .i64 boost], .agg (pcells s h se sr te tr a l c s2 h2 se2 sr2 te2 tr2 a2 l2 c2)] w fun e w' =>
      ∃ ao d, e = .returned (.tuple #[.slice ao (shown (shows lb slots s h se sr te tr xs s2 h2 se2 sr2 te2 tr2 ys) (bth xs ys)).length d, errP (shows lb slots s h se sr te tr xs s2 h2 se2 sr2 te2 tr2 ys)]) ∧
        RowIn .i64 w' ao (shown (shows lb slots s h se sr te tr xs s2 h2 se2 sr2 te2 tr2 ys) (bth xs ys)).length d (shown (shows lb slots s h se sr te tr xs s2 h2 se2 sr2 te2 tr2 ys) (bth xs ys)) ∧ Below w.heap.size w w' := by
  obtain ⟨r1, hr1⟩ : ∃ b, Hid ((whoB xs lb && timesB s se te slots) = b) := ⟨_, rfl⟩
  obtain ⟨r2, hr2⟩ : ∃ b, Hid ((whoB ys lb && timesB s2 se2 te2 slots) = b) := ⟨_, rfl⟩
  obtain ⟨r3, hr3⟩ : ∃ b, Hid (badB s h se sr te tr s2 h2 se2 sr2 te2 tr2 = b) := ⟨_, rfl⟩
  obtain ⟨sh, hsh⟩ : ∃ b, Hid (shows lb slots s h se sr te tr xs s2 h2 se2 sr2 te2 tr2 ys = b) := ⟨_, rfl⟩
  have hsv : Hid (sh = (r1 && r2 && r3 && decide (0 < (bth xs ys).length))) := hide (by rw [← hsh.out, shows, hr1.out, hr2.out, hr3.out])
  rw [hsh.out]
  have hno : Hid (sh = false → ∀ w', Below w.heap.size w w' → ∃ ao d, Ending.returned (.tuple #[.slice none 0 0, .iface 43 (.int .i64 11)]) = .returned (.tuple #[.slice ao (shown sh (bth xs ys)).length d, errP sh]) ∧ RowIn .i64 w' ao (shown sh (bth xs ys)).length d (shown sh (bth xs ys)) ∧ Below w.heap.size w w') :=
    hide (fun e w' hb => by subst e; exact ⟨none, 0, rfl, RowIn.ofNil _ _, hb⟩)
  have HC := hide ((CAt.lit w w.heap.size rfl ab lb cb slots boost).alloc (pobj s h se sr te tr a l c s2 h2 se2 sr2 te2 tr2 a2 l2 c2))
  have HP := hide (PAt.lit (w.alloc (cfg ab lb cb slots boost)) (w.heap.size + 1) (by simp) s h se sr te tr a l c s2 h2 se2 sr2 te2 tr2 a2 l2 c2)
  have HN := hide (((Below.refl _ w).alloc (Nat.le_refl _) (cfg ab lb cb slots boost)).alloc (by simp) (pobj s h se sr te tr a l c s2 h2 se2 sr2 te2 tr2 a2 l2 c2))
  have HX := hide ((hX.alloc (cfg ab lb cb slots boost)).alloc (pobj s h se sr te tr a l c s2 h2 se2 sr2 te2 tr2 a2 l2 c2))
  have HY := hide ((hY.alloc (cfg ab lb cb slots boost)).alloc (pobj s h se sr te tr a l c s2 h2 se2 sr2 te2 tr2 a2 l2 c2))
  clear hX hY
  go_enter Tryd.func9, Tryd.ntmps9
  go_wp2_with fail
  refine (right_any xs _ _ _ _ _ _ _ _ _ _ _ _ _ _ _ HX.out hs hS).mono ?_
  rintro e w1 ⟨rfl, hbel⟩
  rw [hr1.out]
  have HC1 := hide (HC.out.below hbel)
  have HP1 := hide (HP.out.below hbel)
  have HX1 := hide (HX.out.below hbel)
  have HY1 := hide (HY.out.below hbel)
  have HN1 := hide (HN.out.trans (hbel.mono (by simp <;> omega)))
  clear hbel HC HP HX HY HN
  obtain ⟨hlt, d0, d1, d2⟩ := HC1.out
  obtain ⟨hlt2, p0, p1, p2, p3, p4, p5, p6, p7, p8, p9, p10, p11, p12, p13⟩ := HP1.out
  cases r1 with
  | false =>
    go_wp2
    go_ret2
    exact hno.out (by rw [hsv.out]; rfl) _ HN1.out
  | true =>
  go_wp2_with fail
  refine (right_any ys _ _ _ _ _ _ _ _ _ _ _ _ _ _ _ HY1.out hs2 hS).mono ?_
  rintro e w2 ⟨rfl, hbel⟩
  rw [hr2.out]
  clear hlt hlt2 p0 p1 p2 p3 p4 p5 p6 p7 p8 p9 p10 p11 p12 p13 d0 d1 d2
  have HC2 := hide (HC1.out.below hbel)
  have HP2 := hide (HP1.out.below hbel)
  have HX2 := hide (HX1.out.below hbel)
  have HY2 := hide (HY1.out.below hbel)
  have HN2 := hide (HN1.out.trans (hbel.mono HN1.out.size))
  clear hbel HC1 HP1 HX1 HY1 HN1
  obtain ⟨hlt, d0, d1, d2⟩ := HC2.out
  obtain ⟨hlt2, p0, p1, p2, p3, p4, p5, p6, p7, p8, p9, p10, p11, p12, p13⟩ := HP2.out
  cases r2 with
  | false =>
    go_wp2
    go_ret2
    exact hno.out (by rw [hsv.out]; rfl) _ HN2.out
  | true =>
  go_wp2_with fail
  refine (bad_any _ _ _ _ _ _ _ _ _ _ _ _ _ _ _ _ _ _ _).mono ?_
  rintro e w3 ⟨rfl, hbel⟩
  rw [hr3.out]
  clear hlt hlt2 p0 p1 p2 p3 p4 p5 p6 p7 p8 p9 p10 p11 p12 p13 d0 d1 d2
  have HC3 := hide (HC2.out.below hbel)
  have HP3 := hide (HP2.out.below hbel)
  have HX3 := hide (HX2.out.below hbel)
  have HY3 := hide (HY2.out.below hbel)
  have HN3 := hide (HN2.out.trans (hbel.mono HN2.out.size))
  clear hbel HC2 HP2 HX2 HY2 HN2
  obtain ⟨hlt, d0, d1, d2⟩ := HC3.out
  obtain ⟨hlt2, p0, p1, p2, p3, p4, p5, p6, p7, p8, p9, p10, p11, p12, p13⟩ := HP3.out
  cases r3 with
  | false =>
    go_wp2
    go_ret2
    exact hno.out (by rw [hsv.out]; rfl) _ HN3.out
  | true =>
  go_wp2_with fail
  refine (both_any xs ys _ _ _ _ _ _ _ _ _ _ _ _ _ _ _ _ _ _ _ HX3.out HY3.out hl hl2).mono ?_
  rintro e w4 ⟨v, rfl, hown, hbel⟩
  obtain ⟨ao, d, rfl, hR⟩ := RowIn.ofOwned hown
  have HR := hide hR
  have hcap := hR.cap
  unfold maxLen at hcap
  have HN4 := hide (HN3.out.trans (hbel.mono HN3.out.size))
  clear hbel hown hR
  obtain ⟨m, hm⟩ : ∃ m, Hid ((bth xs ys).length = m) := ⟨_, rfl⟩
  rw [hm.out] at HR hcap ⊢
  by_cases h0 : m = 0
  · have hf : sh = false := by rw [hsv.out, hm.out, h0]; rfl
    subst h0
    go_wp2
    go_ret2
    exact hno.out hf _ HN4.out
  · have ht : sh = true := by rw [hsv.out, hm.out, decide_eq_true (by omega)]; rfl
    have HT := hide ht
    have h0' : ¬ (m : Int) = 0 := by omega
    clear ht
    go_wp2
    go_ret2
    rw [HT.out]
    refine ⟨ao, d, ?_, ?_, HN4.out⟩
    · rw [shown, if_pos rfl, hm.out]; rfl
    · rw [shown, if_pos rfl, hm.out]; exact HR.out
theorem shows_comm (n slots s h se sr te tr : Int) (xs : List Int) (s2 h2 se2 sr2 te2 tr2 : Int) (ys : List Int) : shows n slots s h se sr te tr xs s2 h2 se2 sr2 te2 tr2 ys = shows n slots s2 h2 se2 sr2 te2 tr2 ys s h se sr te tr xs := by
  unfold shows
  rw [bth_comm, badB_comm, Bool.and_comm (whoB xs n && _)]
def numP (b : Bool) : Int := if b then 0 else 11
theorem number_errP (b : Bool) (w : World) (hg : w.cell? ⟨0, 0, none⟩ = some (.iface 76 (.agg #[.pointer (some ⟨1, 35, none⟩)]))) :
    Calls Tryd.prog 13 #[errP b] w fun e w' => e = .returned (.int .i64 (numP b)) ∧ Below w.heap.size w w' := by
  cases b
  · exact number_any 11 w hg
  · exact number_nil w
end Go.Proofs.YtbmajbbgfolmiaaDoor

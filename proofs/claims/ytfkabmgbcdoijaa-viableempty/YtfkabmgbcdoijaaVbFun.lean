/- Contracts of viable's recent and agrees. -/
import Derived.Test.YtfkabmgbcdoijaaVbMap

namespace Go.Proofs.Ytfkabmgbcdoijaa

open Go.ChangeShapes Go.WideShapes Go.ChangeAt Go.RowKit Go.Maps

set_option linter.unusedVariables false

theorem far_le {e n : Int} (he : I64 e) (hn : I64 n) (h : e < n) : decide (IntKind.u64.wrap (IntKind.u64.wrap n - IntKind.u64.wrap e) ≤ 2) = decide (n ≤ e + 2) := by
  unfold I64 at he hn
  simp only [IntKind.wrap_u64]
  have : (n % 18446744073709551616 - e % 18446744073709551616) % 18446744073709551616 = n - e := by omega
  rw [this]
  by_cases h2 : n ≤ e + 2
  · rw [decide_eq_true h2, decide_eq_true (by omega)]
  · rw [decide_eq_false h2, decide_eq_false (by omega)]
set_option maxRecDepth 100000 in
set_option maxHeartbeats 1000000 in
theorem recent_any (e n : Int) (w : World) (he : I64 e) (hn : I64 n) :
    Calls Try.prog 26 #[.int .i64 e, .int .i64 n] w fun x w' => x = .returned (.bool (decide (n ≤ e + 2))) ∧ w' = w := by
  by_cases h : n ≤ e
  · have h1 : decide (n ≤ e) = true := decide_eq_true h
    rw [show decide (n ≤ e + 2) = true from decide_eq_true (by omega)]
    clear h he hn
    go_enter Try.func26, Try.ntmps26
    go_wp2
    go_ret
    exact ⟨rfl, rfl⟩
  · have h1 : decide (n ≤ e) = false := decide_eq_false h
    have h2 := hide (far_le he hn (by omega))
    clear h he hn
    go_enter Try.func26, Try.ntmps26
    go_wp2
    go_ret
    exact ⟨by rw [← h2.out]; rfl, rfl⟩
/-- a view -/
abbrev vwC (je jr fe fr ep : Int) (sv : Value) : Array Value := #[.int .i64 je, .int .u64 jr, .int .i64 fe, .int .u64 fr, .int .i64 ep, sv]
abbrev vwO (je jr fe fr ep : Int) (sv : Value) : Obj := .cells (vwC je jr fe fr ep sv) 34
set_option maxRecDepth 100000 in
set_option maxHeartbeats 1000000 in
theorem agrees_any (je jr fe fr ep : Int) (sv : Value) (f : Int → Option Nat) (r : Int) (w : World) (hS : SrcAt w sv f) (hr : U64 r) (hep : I64 ep) (hf : ((f r).getD 0 : Nat) ≤ 4294967296) :
    Calls Try.prog 18 #[.agg (vwC je jr fe fr ep sv), .int .u64 r] w fun x w' => x = .returned (.bool (agB je ep ((f r).getD 0 : Nat))) ∧ Below w.heap.size w w' := by
  obtain ⟨s, hs⟩ : ∃ s : Int, Hid ((((f r).getD 0 : Nat) : Int) = s) := ⟨_, rfl⟩
  have hl := (hS.below (below_alloc w (vwO je jr fe fr ep sv))).look r hr
  have hsI : I64 s := by rw [← hs.out]; unfold I64; omega
  rw [hs.out] at hl ⊢
  have HR := hide (recent_any s ep (w.alloc (vwO je jr fe fr ep sv)) hsI hep)
  have HX0 := hide (OAt.new w (vwO je jr fe fr ep sv))
  have HB0 := hide ((Below.refl w.heap.size w).alloc (Nat.le_refl _) (vwO je jr fe fr ep sv))
  have x0 := HX0.out.cell 0
  have x4 := HX0.out.cell 4
  have x5 := HX0.out.cell 5
  simp only [List.getElem?_toArray, List.getElem?_cons_zero, List.getElem?_cons_succ] at x0 x4 x5
  clear hS hr hep hf hsI
  by_cases h0 : je = 0
  · have e1 : Hid (agB je ep s = true) := hide (by simp [agB, h0])
    have h1 : (je == 0) = true := by simpa using h0
    have h2 : decide (je = 0) = true := by simpa using h0
    rw [e1.out]
    clear h0 e1 HR
    go_enter Try.func18, Try.ntmps18
    go_wp2
    go_ret
    exact ⟨rfl, HB0.out⟩
  · have h1 : (je == 0) = false := by simpa using h0
    have h2 : decide (je = 0) = false := by simpa using h0
    by_cases hj : s = je
    · have e1 : Hid (agB je ep s = true) := hide (by simp [agB, hj])
      have h3 : (s == je) = true := by simpa using hj
      have h4 : decide (s = je) = true := by simpa using hj
      rw [e1.out]
      clear h0 e1 HR hj
      go_enter Try.func18, Try.ntmps18
      go_wp2
      go_ret
      exact ⟨rfl, HB0.out⟩
    · have e1 : Hid (agB je ep s = decide (ep ≤ s + 2)) := hide (by simp [agB, h0, hj])
      have h3 : (s == je) = false := by simpa using hj
      have h4 : decide (s = je) = false := by simpa using hj
      rw [e1.out]
      generalize decide (ep ≤ s + 2) = B at HR
      clear h0 e1 hj
      go_enter Try.func18, Try.ntmps18
      go_wp2_with (go_at_call 26; refine HR.out.mono ?_; rintro e w' ⟨rfl, hw⟩; obtain rfl : _ = w' := hw.symm)
      go_ret
      exact ⟨rfl, HB0.out⟩
end Go.Proofs.Ytfkabmgbcdoijaa

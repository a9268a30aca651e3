/- Contract of epoch.Ends: the epochs, rising, in a new row; none where there are none. -/
import Derived.Test.YtphahkjjmomjcaaEpRead

namespace Go.Proofs.Ytphahkjjmomjcaa

open Go.ChangeShapes Go.WideShapes Go.ChangeAt Go.RowKit

set_option linter.unusedVariables false

/-- so many numbers, rising by one -/
def run (f : Int) (n : Nat) : List Int := (List.range n).map fun (i : Nat) => f + (i : Int)
theorem run_len (f : Int) (n : Nat) : (run f n).length = n := by simp [run]
theorem run_get (f : Int) (n i : Nat) (h : i < n) : (run f n).getD i 0 = f + (i : Int) := by simp [run, List.getD_eq_getElem?_getD, h]
theorem run_succ (f : Int) (n : Nat) : run f (n + 1) = run f n ++ [f + (n : Int)] := by simp [run, List.range_succ]
theorem run_append (f : Int) (n m : Nat) : run f n ++ run (f + (n : Int)) m = run f (n + m) := by
  induction m with
  | zero => simp [run]
  | succ m ih => rw [run_succ, ← List.append_assoc, ih, ← Nat.add_assoc, run_succ]; congr 2; omega
/-- what is laid after k rounds -/
def half (f : Int) (n k : Nat) : List Value := (run f k).map (Value.int .i64) ++ List.replicate (n - k) (.int .i64 0)
theorem half_len (f : Int) (n k : Nat) (h : k ≤ n) : (half f n k).length = n := by simp [half, run_len]; omega
theorem half_set (f : Int) (n k : Nat) (h : k < n) : (half f n k).set k (.int .i64 (f + (k : Int))) = half f n (k + 1) := by
  unfold half
  rw [List.set_append_right _ _ (by simp [run_len]), run_succ, show n - k = (n - (k + 1)) + 1 from by omega, List.replicate_succ]
  simp [run_len]
theorem half_all (f : Int) (n : Nat) : half f n n = (run f n).map (Value.int .i64) := by simp [half]
theorem half_at (f : Int) (n k : Nat) (h : k < n) : (half f n k)[k]? = some (.int .i64 0) := by
  unfold half
  rw [List.getElem?_append_right (by simp [run_len])]
  simp [run_len, List.getElem?_replicate]; omega

theorem info3 : (Try.prog.info? 3).map (fun i => (i.zero, i.size, i.bytes)) = some (some (.int .i64 0), 1, 8) := by kernel_rfl

/-- how many epochs end -/
def ends (a b s : Int) : Int := if epo b s - epo a s < 4096 then epo b s - epo a s else 4096

set_option maxRecDepth 100000 in
set_option maxHeartbeats 400000 in
theorem ends_none (a b s : Int) (w : World) (ha : -9223372036854775808 ≤ a ∧ a ≤ 9223372036854775807) (hb : -9223372036854775808 ≤ b ∧ b ≤ 9223372036854775807) (hs : -9223372036854775808 ≤ s ∧ s ≤ 9223372036854775807)
    (h : ends a b s ≤ 0) :
    Calls Try.prog 51 #[.int .i64 a, .int .i64 b, .int .i64 s] w fun e w' => e = .returned (.slice none 0 0) ∧ w' = w := by
  have h0 := epo_b ha hs
  have h1 := epo_b hb hs
  have h2 : epo b s - epo a s ≤ 0 := by unfold ends at h; split at h <;> omega
  go_enter Try.func51, Try.ntmps51
  go_wp2_with (go_at_call 57; refine (of_any _ _ _ (by omega) (by omega)).mono ?_; rintro e w' ⟨rfl, rfl⟩)
  all_goals go_ret
  all_goals exact ⟨rfl, rfl⟩

set_option maxRecDepth 100000 in
set_option maxHeartbeats 800000 in
theorem ends_some (a b s : Int) (n : Nat) (w : World) (ha : -9223372036854775808 ≤ a ∧ a ≤ 9223372036854775807) (hb : -9223372036854775808 ≤ b ∧ b ≤ 9223372036854775807) (hs : -9223372036854775808 ≤ s ∧ s ≤ 9223372036854775807)
    (hn : 0 < n) (h : ends a b s = (n : Int)) :
    Calls Try.prog 51 #[.int .i64 a, .int .i64 b, .int .i64 s] w fun e w' =>
      e = .returned (.slice (some ⟨w.heap.size, 0, none⟩) n n) ∧ w'.ownsRow w.heap.size 3 1 (.slice (some ⟨w.heap.size, 0, none⟩) n n) n ((run (epo a s) n).map (Value.int .i64)) ∧ Below w.heap.size w w' := by
  obtain ⟨i0, hi, hz0, hz1, hz2⟩ := info_parts info3
  have h0 := epo_b ha hs
  have h1 := epo_b hb hs
  have h2 : (n : Int) ≤ 4096 ∧ epo a s + n ≤ epo b s ∧ (epo b s - epo a s < 4096 → epo b s - epo a s = n) ∧ (4096 ≤ epo b s - epo a s → n = 4096) := by unfold ends at h; split at h <;> omega
  clear h
  by_cases h3 : epo b s - epo a s ≤ 4096
  all_goals
    go_enter Try.func51, Try.ntmps51
    go_wp2_with (first
      | (go_at_call 57; refine (of_any _ _ _ (by omega) (by omega)).mono ?_; rintro e w' ⟨rfl, hw⟩; obtain rfl : _ = w' := hw.symm)
      | (at_make; refine wpList_make_full _ rfl _ _ 68 rfl w.heap.size 3 i0 (.int .i64 0) 1 Try.underlying68 hi hz0 hz1 _ _ _ _ n rfl rfl ?b0 ?b1 ?b2 ?b3 (Nat.le_refl _) ?_))
    case b0 => omega
    case b1 => omega
    case b2 => rw [hz2]; omega
    case b3 => unfold maxLen; omega
    intro w0 hown0 hgrow0
    have hbel0 : Below w.heap.size w w0 := (Below.refl _ _).grown hgrow0 (Nat.le_refl _) (fun k h => by cases h)
    rw [toList_madeCells_one] at hown0
    clear hgrow0
    go_wp2
    go_loopw [26] (fun i wr => ∃ k : Nat, k ≤ n ∧ i = .int .i64 k ∧ wr.ownsRow w.heap.size 3 1 (.slice (some ⟨w.heap.size, 0, none⟩) n n) n (half (epo a s) n k) ∧ Below w.heap.size w wr)
      (fun i _ => n - (intOf i).toNat)
    case atStart => exact ⟨0, Nat.zero_le _, rfl, by simpa [half, run] using hown0, hbel0⟩
    case round =>
      obtain ⟨k, hk, rfl, hown, hbel⟩ := hrel
      clear hown0 hbel0
      by_cases hlt : k < n
      · have hcell : wr.cell? ⟨w.heap.size, k, none⟩ = some (.int .i64 0) := by rw [hown.cellAt k (by omega), half_at _ _ _ hlt]
        have hfr := hown.frozenAt k
        have hst := hown.stored k (.int .i64 (epo a s + (k : Int)))
        rw [half_set _ _ _ hlt] at hst
        have HST := hide hst
        have HB := hide hbel
        clear hst hown hbel
        go_wp2
        go_roundw
        case rel => exact ⟨k + 1, by omega, by go_num, HST.out.1, HB.out.grown HST.out.2 HB.out.size (fun k hk => by cases hk; exact Nat.le_refl _)⟩
        case measure => simp [intOf]; omega
      · have hkk : k = n := by omega
        subst hkk
        rw [half_all] at hown
        go_wp2
        go_ret
        exact ⟨rfl, hown, hbel⟩
end Go.Proofs.Ytphahkjjmomjcaa

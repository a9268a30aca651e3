/- Contracts of slices.reverseRangeOrdered, partialInsertionSortOrdered (of fewer than fifty numbers), partitionOrdered: what they leave is what was, in another order. -/
import Derived.Test.YtphahkjjmomjcaaDoorTSort

import Derived.BigRegion

namespace Go.Proofs.YtphahkjjmomjcaaDoor

open Go.ChangeShapes Go.WideShapes Go.ChangeAt Go.RowKit

open Go.Sort (swp ltInt PermIn SortedIn SWO)

set_option linter.unusedVariables false

/-- what a function of the sort leaves -/
def Mixed (w0 : World) (base g cap : Nat) (d : Array Int) (a b : Nat) (w' : World) : Prop := ∃ d', PermIn a b d d' ∧ SRow w0 base g cap d' w'

set_option maxRecDepth 100000 in
set_option maxHeartbeats 2000000 in
theorem reverse_any (base g cap a b : Nat) (d : Array Int) (w0 w : World) (hR : SRow w0 base g cap d w) (hab : a < b) (hb : b ≤ d.size) (hsz : d.size < 4611686018427387904) :
    Calls Tryd.prog 43 #[.slice (some ⟨g, 0, none⟩) d.size cap, .int .i64 a, .int .i64 b] w fun e w' =>
      e = .returned (.tuple #[]) ∧ Mixed w0 base g cap d a b w' := by
  obtain ⟨n, hn⟩ : ∃ n, d.size = n := ⟨_, rfl⟩
  have HR := hide hR
  have HN := hide hn
  rw [hn] at hb hsz ⊢
  clear hR hn
  go_enter Tryd.func43, Tryd.ntmps43
  go_wp2
  go_loopw [6, 7] (fun vi vj wr => ∃ (i j : Nat) (dk : Array Int), vi = .int .i64 i ∧ vj = .int .i64 j ∧ a ≤ i ∧ j < b ∧ i ≤ n ∧ Hid (dk.size = n ∧ SRow w0 base g cap dk wr ∧ PermIn a b d dk)) (fun vi vj _ => (intOf vj).toNat)
  case atStart => exact ⟨a, b - 1, d, rfl, by congr 1; omega, Nat.le_refl _, by omega, by omega, hide ⟨HN.out, HR.out, Go.Sort.permIn_refl _ _ _⟩⟩
  case round =>
    obtain ⟨i, j, dk, rfl, rfl, hai, hjb, hin, hI⟩ := hrel
    clear HR
    by_cases hlt : i < j
    · obtain ⟨G, hG⟩ : ∃ G : Nat → Int, Hid (∀ t, G t = dk[t]!) := ⟨fun t => dk[t]!, fun _ => rfl⟩
      have hcw : ∀ t, t < n → wr.cell? ⟨g, t, none⟩ = some (.int .u64 (G t)) := fun t ht => by
        rw [hG.out]; exact hI.out.2.1.cell t (by rw [hI.out.1]; exact ht)
      have hfw : ∀ t, t < n → wr.frozen? ⟨g, t, none⟩ = false := fun t ht => hI.out.2.1.frozen t
      have hi1 : i < n := by omega
      have hj1 : j < n := by omega
      go_wp2
      go_region
      all_goals go_wp2
      go_roundw
      case rel =>
        refine ⟨i + 1, j - 1, swp dk i j, by go_num, by congr 1; omega, by omega, by omega, by omega, hide ⟨by rw [size_swpI]; exact hI.out.1, ?_, ?_⟩⟩
        · rw [hG.out, hG.out]
          exact hI.out.2.1.drew.swap i j (by rw [hI.out.1]; omega) (by rw [hI.out.1]; omega)
        · exact Go.Sort.permIn_trans _ _ _ _ _ hI.out.2.2 (Go.Sort.swp_permIn _ _ _ _ _ (by omega) (by omega) (by omega) (by omega) (by rw [hI.out.1]; omega))
      case measure => simp [intOf]; omega
    · go_wp2
      go_end0
      exact ⟨rfl, dk, hI.out.2.2, hI.out.2.1⟩

theorem sorted_snoc {a i : Nat} {d : Array Int} (h : SortedIn ltInt a i d) (hl : a < i → ltInt d[i]! d[i - 1]! = false) : SortedIn ltInt a (i + 1) d := by
  intro x y h1 h2 h3
  by_cases e : y = i
  · subst e
    have h4 := hl (by omega)
    by_cases e2 : x = y - 1
    · rw [e2]; exact h4
    · have h5 := h x (y - 1) h1 (by omega) (by omega)
      simp [ltInt] at h4 h5 ⊢
      omega
  · exact h x y h1 h2 (by omega)

set_option maxRecDepth 100000 in
set_option maxHeartbeats 4000000 in
theorem partialIns_any (base g cap a b : Nat) (d : Array Int) (w0 w : World) (hR : SRow w0 base g cap d w) (hab : a < b) (hb : b ≤ d.size) (hsz : d.size < 50) :
    Calls Tryd.prog 44 #[.slice (some ⟨g, 0, none⟩) d.size cap, .int .i64 a, .int .i64 b] w fun e w' =>
      ∃ r : Bool, e = .returned (.bool r) ∧ (r = true → SortedIn ltInt a b d) ∧ SRow w0 base g cap d w' := by
  obtain ⟨n, hn⟩ : ∃ n, d.size = n := ⟨_, rfl⟩
  have HR := hide hR
  have HN := hide hn
  rw [hn] at hb hsz ⊢
  clear hR hn
  have hnl : (b : Int) - (a : Int) < 50 := by omega
  go_enter Tryd.func44, Tryd.ntmps44
  go_wp2
  go_loopw [7, 8] (fun vi vj wr => vj = .int .i64 0 ∧ vi = .int .i64 ((a + 1 : Nat) : Int) ∧ Hid (SRow w0 base g cap d wr)) (fun vi vj _ => 0)
  case atStart => exact ⟨rfl, by go_num, HR⟩
  case round =>
    clear HR
    obtain ⟨rfl, rfl, hR0⟩ := hrel
    go_wp2
    go_loopw [7] (fun vi w2 => ∃ i : Nat, vi = .int .i64 i ∧ a < i ∧ i ≤ b ∧ Hid (SRow w0 base g cap d w2 ∧ SortedIn ltInt a i d)) (fun vi _ => b - (intOf vi).toNat)
    case atStart => exact ⟨a + 1, rfl, by omega, by omega, hide ⟨hR0.out, fun x y h1 h2 h3 => by omega⟩⟩
    case round =>
      obtain ⟨i, rfl, hai, hib, hI⟩ := hrel
      obtain ⟨G, hG⟩ : ∃ G : Nat → Int, Hid (∀ t, G t = d[t]!) := ⟨fun t => d[t]!, fun _ => rfl⟩
      have hcw : ∀ t, t < n → wr.cell? ⟨g, t, none⟩ = some (.int .u64 (G t)) := fun t ht => by
        rw [hG.out]; exact hI.out.1.cell t (by rw [HN.out]; exact ht)
      go_wp2
      by_cases hlt : i < b
      · have hi1 : i < n := by omega
        have hi2 : i - 1 < n := by omega
        go_quiet (first | (go_at_call 35; refine Calls.quiet_of_same (less_quiet _ _ _)))
        have hne : ((i : Int) == (b : Int)) = false := by simp; omega
        obtain ⟨B, hB⟩ : ∃ B, Hid (ltInt (G i) (G (i - 1)) = B) := ⟨_, rfl⟩
        rw [hB.out]
        cases B
        · go_wp2
          go_roundw
          case rel => exact ⟨i + 1, by go_num, by omega, by omega, hide ⟨hI.out.1.drewN _, sorted_snoc hI.out.2 (fun _ => by rw [← hG.out, ← hG.out]; exact hB.out)⟩⟩
          case measure => simp [intOf]; omega
        · go_wp2
          go_ret
          exact ⟨false, rfl, (fun h => by cases h), hI.out.1.drewN _⟩
      · have hib2 : i = b := by omega
        subst hib2
        go_quiet (first | (go_at_call 35; refine Calls.quiet_of_same (less_quiet _ _ _)))
        go_wp2
        go_ret
        exact ⟨true, rfl, fun _ => hI.out.2, hI.out.1.drewN _⟩

/-- those ahead of i are less than the first, those behind j are not -/
structure Parted (d : Array Int) (a b i j : Nat) : Prop where
  lo : ∀ x, a < x → x < i → d[x]! < d[a]!
  hi : ∀ x, j < x → x < b → d[a]! ≤ d[x]!
theorem Parted.swap {d : Array Int} {a b i j : Nat} (h : Parted d a b i j) (ha : a < i) (hij : i < j) (hjb : j < b) (hb : b ≤ d.size) (h1 : d[a]! ≤ d[i]!) (h2 : d[j]! < d[a]!) : Parted (swp d i j) a b (i + 1) (j - 1) := by
  have ea : (swp d i j)[a]! = d[a]! := Go.Sort.swp_other d i j a (by omega) (by omega)
  refine ⟨fun x h3 h4 => ?_, fun x h3 h4 => ?_⟩
  · rw [ea]
    by_cases e : x = i
    · rw [e, Go.Sort.swp_left d i j (by omega) (by omega)]; exact h2
    · rw [Go.Sort.swp_other d i j x e (by omega)]; exact h.lo x h3 (by omega)
  · rw [ea]
    by_cases e : x = j
    · rw [e, Go.Sort.swp_right d i j (by omega)]; exact h1
    · rw [Go.Sort.swp_other d i j x (by omega) e]; exact h.hi x (by omega) h4
/-- the last swap: the first goes to its place -/
theorem Parted.done {d : Array Int} {a b i j : Nat} (h : Parted d a b i j) (ha : a ≤ j) (hij : j < i) (hjb : j < b) (hb : b ≤ d.size) : (∀ x, a ≤ x → x < j → (swp d j a)[x]! < (swp d j a)[j]!) ∧ (∀ x, j < x → x < b → (swp d j a)[j]! ≤ (swp d j a)[x]!) := by
  by_cases e : a = j
  · subst e
    have e2 : ∀ x, (swp d a a)[x]! = d[x]! := fun x => by
      by_cases ex : x = a
      · rw [ex, Go.Sort.swp_right d a a (by omega)]
      · exact Go.Sort.swp_other d a a x ex ex
    refine ⟨fun x h1 h2 => by omega, fun x h1 h2 => ?_⟩
    rw [e2, e2]
    exact h.hi x h1 h2
  · have ej : (swp d j a)[j]! = d[a]! := Go.Sort.swp_left d j a (by omega) (fun x => e x.symm)
    refine ⟨fun x h1 h2 => ?_, fun x h1 h2 => ?_⟩
    · rw [ej]
      by_cases ex : x = a
      · rw [ex, Go.Sort.swp_right d j a (by omega)]; exact h.lo j (by omega) hij
      · rw [Go.Sort.swp_other d j a x (by omega) ex]; exact h.lo x (by omega) (by omega)
    · rw [ej, Go.Sort.swp_other d j a x (by omega) (by omega)]; exact h.hi x h1 h2
/-- what partition leaves -/
def PartDone (w0 : World) (base g cap : Nat) (d : Array Int) (a b : Nat) (e : Ending) (w' : World) : Prop :=
  ∃ (mid : Nat) (r : Bool) (d' : Array Int), e = .returned (.tuple #[.int .i64 (mid : Int), .bool r]) ∧ a ≤ mid ∧ mid < b ∧ PermIn a b d d' ∧ SRow w0 base g cap d' w' ∧ (∀ x, a ≤ x → x < mid → d'[x]! < d'[mid]!) ∧ (∀ x, mid < x → x < b → d'[mid]! ≤ d'[x]!)

set_option maxRecDepth 100000 in
set_option maxRecDepth 100000 in
set_option maxHeartbeats 8000000 in
theorem partition_any (base g cap a b p : Nat) (d : Array Int) (w0 w : World) (hR : SRow w0 base g cap d w) (hap : a ≤ p) (hpb : p < b) (hb : b ≤ d.size) (hsz : d.size < 4611686018427387904) :
    Calls Tryd.prog 46 #[.slice (some ⟨g, 0, none⟩) d.size cap, .int .i64 a, .int .i64 b, .int .i64 p] w (PartDone w0 base g cap d a b) := by
  obtain ⟨n, hn⟩ : ∃ n, d.size = n := ⟨_, rfl⟩
  obtain ⟨c1, rfl⟩ : ∃ c1, b = c1 + 1 := ⟨b - 1, by omega⟩
  have HN := hide hn
  rw [hn] at hb hsz ⊢
  have HR0 := hide hR
  obtain ⟨G, hG⟩ : ∃ G : Nat → Int, Hid (∀ t, G t = d[t]!) := ⟨fun t => d[t]!, fun _ => rfl⟩
  have hcw : ∀ t, t < n → w.cell? ⟨g, t, none⟩ = some (.int .u64 (G t)) := fun t ht => by
    rw [hG.out]; exact hR.cell t (by rw [HN.out]; exact ht)
  have hfw : ∀ t, t < n → w.frozen? ⟨g, t, none⟩ = false := fun t ht => hR.frozen t
  have ha1 : a < n := by omega
  have hp1 : p < n := by omega
  clear hR hn
  go_enter Tryd.func46, Tryd.ntmps46
  go_upto_region 1 with fail
  go_cut [] from 12 to 25 (fun wx => Hid (∃ d1 : Array Int, d1.size = n ∧ SRow w0 base g cap d1 wx ∧ PermIn a (c1 + 1) d d1))
  case first =>
    have HE : Hid (SRow w0 base g cap (swp d a p) ((w.setCell ⟨g, a, none⟩ (.int .u64 (G p))).setCell ⟨g, p, none⟩ (.int .u64 (G a))).drew ∧ PermIn a (c1 + 1) d (swp d a p)) := by
      rw [hG.out, hG.out]
      exact ⟨(HR0.out.swap a p (by rw [HN.out]; exact ha1) (by rw [HN.out]; exact hp1)).drew, Go.Sort.swp_permIn _ _ _ _ _ (by omega) (by omega) (by omega) (by omega) (by rw [HN.out]; exact hb)⟩
    by_cases hpa : a = p
    · subst hpa
      go_region
      go_wp2
      go_meet
      exact ⟨_, by rw [size_swpI]; exact HN.out, HE.out.1, HE.out.2⟩
    · go_region
      go_wp2
      go_meet
      exact ⟨_, by rw [size_swpI]; exact HN.out, HE.out.1, HE.out.2⟩
  case rest =>
    clear hcw hfw hG
    obtain ⟨d1, hd1, hR1, hP1⟩ := hcut.out
    have H := hide (⟨hd1, hR1, hP1, ⟨fun x h1 h2 => by omega, fun x h1 h2 => by omega⟩⟩ : d1.size = n ∧ SRow w0 base g cap d1 wc ∧ PermIn a (c1 + 1) d d1 ∧ Parted d1 a (c1 + 1) (a + 1) c1)
    clear hd1 hR1 hP1 hcut HR0
    go_wp2
    -- WALK-BEGIN
    go_loopw [10] (fun vi w2 => ∃ i : Nat, vi = .int .i64 i ∧ a < i ∧ i ≤ c1 + 1 ∧ Hid (SRow w0 base g cap d1 w2 ∧ Parted d1 a (c1 + 1) i c1)) (fun vi _ => c1 + 1 - (intOf vi).toNat)
    case atStart => exact ⟨a + 1, by first | rfl | go_num, by omega, by omega, hide ⟨H.out.2.1, H.out.2.2.2⟩⟩
    case round =>
      obtain ⟨i, rfl, hai, hij, hI⟩ := hrel
      obtain ⟨G, hG⟩ : ∃ G : Nat → Int, Hid (∀ t, G t = d1[t]!) := ⟨fun t => d1[t]!, fun _ => rfl⟩
      have hcw : ∀ t, t < n → wr.cell? ⟨g, t, none⟩ = some (.int .u64 (G t)) := fun t ht => by
        rw [hG.out]; exact hI.out.1.cell t (by rw [H.out.1]; exact ht)
      go_wp2
      by_cases hlt : i ≤ c1
      · have hi1 : i < n := by omega
        have hia : a < n := by omega
        go_quiet (first | (go_at_call 35; refine Calls.quiet_of_same (less_quiet _ _ _)))
        obtain ⟨B, hB⟩ : ∃ B, Hid (ltInt (G i) (G a) = B) := ⟨_, rfl⟩
        rw [hB.out]
        cases B
        · have hstop := hide (fun _ : i ≤ c1 => show d1[a]! ≤ d1[i]! from by have := hB.out; rw [hG.out, hG.out] at this; simpa [ltInt] using this)
          have HI := hide (⟨hI.out.1.drewN nq, hI.out.2⟩ : SRow w0 base g cap d1 (wr.drewN nq) ∧ Parted d1 a (c1 + 1) i c1)
          clear hI hB hcw hG hlt hi1
          generalize wr.drewN nq = wq at HI ⊢
          go_wp2
          go_loopw [11] (fun vj w2 => ∃ j : Nat, vj = .int .i64 j ∧ i ≤ j + 1 ∧ j ≤ c1 ∧ Hid (SRow w0 base g cap d1 w2 ∧ Parted d1 a (c1 + 1) i j)) (fun vj _ => (intOf vj).toNat)
          case atStart => exact ⟨c1, rfl, by omega, by omega, HI⟩
          case round =>
            clear HI
            obtain ⟨j, rfl, hjj, hjb, hI⟩ := hrel
            obtain ⟨G, hG⟩ : ∃ G : Nat → Int, Hid (∀ t, G t = d1[t]!) := ⟨fun t => d1[t]!, fun _ => rfl⟩
            have hcw : ∀ t, t < n → wr.cell? ⟨g, t, none⟩ = some (.int .u64 (G t)) := fun t ht => by
              rw [hG.out]; exact hI.out.1.cell t (by rw [H.out.1]; exact ht)
            go_wp2
            by_cases hlj : i ≤ j
            · have hj1 : j < n := by omega
              have hia : a < n := by omega
              go_quiet (first | (go_at_call 35; refine Calls.quiet_of_same (less_quiet _ _ _)))
              obtain ⟨B, hB⟩ : ∃ B, Hid (ltInt (G j) (G a) = B) := ⟨_, rfl⟩
              rw [hB.out]
              cases B
              · go_wp2
                go_roundw
                case rel => exact ⟨j - 1, by congr 1; omega, by omega, by omega, hide ⟨hI.out.1.drewN _, ⟨hI.out.2.lo, fun x h1 h2 => by
                  by_cases e : x = j
                  · have := hB.out
                    rw [hG.out, hG.out] at this
                    rw [e]
                    simpa [ltInt] using this
                  · exact hI.out.2.hi x (by omega) h2⟩⟩⟩
                case measure => simp [intOf]; omega
              · have hlow := hide (show d1[j]! < d1[a]! from by have := hB.out; rw [hG.out, hG.out] at this; simpa [ltInt] using this)
                have hne : i ≠ j := fun e => by
                  have h1 := hstop.out (by omega)
                  have h2 := hlow.out
                  rw [e] at h1
                  omega
                have HI := hide (⟨hI.out.1.drewN nq, hI.out.2⟩ : SRow w0 base g cap d1 (wr.drewN nq) ∧ Parted d1 a (c1 + 1) i j)
                clear hI hB hcw hG
                generalize wr.drewN nq = wq at HI ⊢
                have hlt2 : i < j := by omega
                go_wp2
                obtain ⟨G, hG⟩ : ∃ G : Nat → Int, Hid (∀ t, G t = d1[t]!) := ⟨fun t => d1[t]!, fun _ => rfl⟩
                have hcw : ∀ t, t < n → wq.cell? ⟨g, t, none⟩ = some (.int .u64 (G t)) := fun t ht => by
                  rw [hG.out]; exact HI.out.1.cell t (by rw [H.out.1]; exact ht)
                have hfw : ∀ t, t < n → wq.frozen? ⟨g, t, none⟩ = false := fun t ht => HI.out.1.frozen t
                have hi1 : i < n := by omega
                have hj1 : j < n := by omega
                have HE : Hid ((swp d1 i j).size = n ∧ SRow w0 base g cap (swp d1 i j) ((wq.setCell ⟨g, i, none⟩ (.int .u64 (G j))).setCell ⟨g, j, none⟩ (.int .u64 (G i))).drew ∧ PermIn a (c1 + 1) d (swp d1 i j) ∧ Parted (swp d1 i j) a (c1 + 1) (i + 1) (j - 1)) := by
                  rw [hG.out, hG.out]
                  exact ⟨by rw [size_swpI]; exact H.out.1, (HI.out.1.swap i j (by rw [H.out.1]; omega) (by rw [H.out.1]; omega)).drew, Go.Sort.permIn_trans _ _ _ _ _ H.out.2.2.1 (Go.Sort.swp_permIn _ _ _ _ _ (by omega) (by omega) (by omega) (by omega) (by rw [H.out.1]; omega)), HI.out.2.swap hai hlt2 (by omega) (by rw [H.out.1]; omega) (hstop.out (by omega)) hlow.out⟩
                go_region
                clear hcw hfw hG HI hstop hlow
                go_wp2
                clear H
                go_loopw [10, 11] (fun vi vj w2 => ∃ (i0 j0 : Nat) (dk : Array Int), vi = .int .i64 i0 ∧ vj = .int .i64 j0 ∧ a < i0 ∧ i0 ≤ j0 + 1 ∧ j0 ≤ c1 ∧ Hid (dk.size = n ∧ SRow w0 base g cap dk w2 ∧ PermIn a (c1 + 1) d dk ∧ Parted dk a (c1 + 1) i0 j0)) (fun vi vj _ => (intOf vj).toNat)
                case atStart => exact ⟨i + 1, j - 1, _, by go_num, by congr 1; omega, by omega, by omega, by omega, HE⟩
                case round =>
                  clear HE
                  obtain ⟨i0, j0, dk, rfl, rfl, hai0, hij0, hj0, H⟩ := hrel
                  go_wp2
                  go_loopw [10] (fun vi w2 => ∃ i : Nat, vi = .int .i64 i ∧ a < i ∧ i ≤ j0 + 1 ∧ Hid (SRow w0 base g cap dk w2 ∧ Parted dk a (c1 + 1) i j0)) (fun vi _ => j0 + 1 - (intOf vi).toNat)
                  case atStart => exact ⟨i0, by first | rfl | go_num, by omega, by omega, hide ⟨H.out.2.1, H.out.2.2.2⟩⟩
                  case round =>
                    obtain ⟨i, rfl, hai, hij, hI⟩ := hrel
                    obtain ⟨G, hG⟩ : ∃ G : Nat → Int, Hid (∀ t, G t = dk[t]!) := ⟨fun t => dk[t]!, fun _ => rfl⟩
                    have hcw : ∀ t, t < n → wr.cell? ⟨g, t, none⟩ = some (.int .u64 (G t)) := fun t ht => by
                      rw [hG.out]; exact hI.out.1.cell t (by rw [H.out.1]; exact ht)
                    go_wp2
                    by_cases hlt : i ≤ j0
                    · have hi1 : i < n := by omega
                      have hia : a < n := by omega
                      go_quiet (first | (go_at_call 35; refine Calls.quiet_of_same (less_quiet _ _ _)))
                      obtain ⟨B, hB⟩ : ∃ B, Hid (ltInt (G i) (G a) = B) := ⟨_, rfl⟩
                      rw [hB.out]
                      cases B
                      · have hstop := hide (fun _ : i ≤ j0 => show dk[a]! ≤ dk[i]! from by have := hB.out; rw [hG.out, hG.out] at this; simpa [ltInt] using this)
                        have HI := hide (⟨hI.out.1.drewN nq, hI.out.2⟩ : SRow w0 base g cap dk (wr.drewN nq) ∧ Parted dk a (c1 + 1) i j0)
                        clear hI hB hcw hG hlt hi1
                        generalize wr.drewN nq = wq at HI ⊢
                        go_wp2
                        go_loopw [11] (fun vj w2 => ∃ j : Nat, vj = .int .i64 j ∧ i ≤ j + 1 ∧ j ≤ j0 ∧ Hid (SRow w0 base g cap dk w2 ∧ Parted dk a (c1 + 1) i j)) (fun vj _ => (intOf vj).toNat)
                        case atStart => exact ⟨j0, rfl, by omega, by omega, HI⟩
                        case round =>
                          clear HI
                          obtain ⟨j, rfl, hjj, hjb, hI⟩ := hrel
                          obtain ⟨G, hG⟩ : ∃ G : Nat → Int, Hid (∀ t, G t = dk[t]!) := ⟨fun t => dk[t]!, fun _ => rfl⟩
                          have hcw : ∀ t, t < n → wr.cell? ⟨g, t, none⟩ = some (.int .u64 (G t)) := fun t ht => by
                            rw [hG.out]; exact hI.out.1.cell t (by rw [H.out.1]; exact ht)
                          go_wp2
                          by_cases hlj : i ≤ j
                          · have hj1 : j < n := by omega
                            have hia : a < n := by omega
                            go_quiet (first | (go_at_call 35; refine Calls.quiet_of_same (less_quiet _ _ _)))
                            obtain ⟨B, hB⟩ : ∃ B, Hid (ltInt (G j) (G a) = B) := ⟨_, rfl⟩
                            rw [hB.out]
                            cases B
                            · go_wp2
                              go_roundw
                              case rel => exact ⟨j - 1, by congr 1; omega, by omega, by omega, hide ⟨hI.out.1.drewN _, ⟨hI.out.2.lo, fun x h1 h2 => by
                                by_cases e : x = j
                                · have := hB.out
                                  rw [hG.out, hG.out] at this
                                  rw [e]
                                  simpa [ltInt] using this
                                · exact hI.out.2.hi x (by omega) h2⟩⟩⟩
                              case measure => simp [intOf]; omega
                            · have hlow := hide (show dk[j]! < dk[a]! from by have := hB.out; rw [hG.out, hG.out] at this; simpa [ltInt] using this)
                              have hne : i ≠ j := fun e => by
                                have h1 := hstop.out (by omega)
                                have h2 := hlow.out
                                rw [e] at h1
                                omega
                              have HI := hide (⟨hI.out.1.drewN nq, hI.out.2⟩ : SRow w0 base g cap dk (wr.drewN nq) ∧ Parted dk a (c1 + 1) i j)
                              clear hI hB hcw hG
                              generalize wr.drewN nq = wq at HI ⊢
                              have hlt2 : i < j := by omega
                              go_wp2
                              obtain ⟨G, hG⟩ : ∃ G : Nat → Int, Hid (∀ t, G t = dk[t]!) := ⟨fun t => dk[t]!, fun _ => rfl⟩
                              have hcw : ∀ t, t < n → wq.cell? ⟨g, t, none⟩ = some (.int .u64 (G t)) := fun t ht => by
                                rw [hG.out]; exact HI.out.1.cell t (by rw [H.out.1]; exact ht)
                              have hfw : ∀ t, t < n → wq.frozen? ⟨g, t, none⟩ = false := fun t ht => HI.out.1.frozen t
                              have hi1 : i < n := by omega
                              have hj1 : j < n := by omega
                              have HE : Hid ((swp dk i j).size = n ∧ SRow w0 base g cap (swp dk i j) ((wq.setCell ⟨g, i, none⟩ (.int .u64 (G j))).setCell ⟨g, j, none⟩ (.int .u64 (G i))).drew ∧ PermIn a (c1 + 1) d (swp dk i j) ∧ Parted (swp dk i j) a (c1 + 1) (i + 1) (j - 1)) := by
                                rw [hG.out, hG.out]
                                exact ⟨by rw [size_swpI]; exact H.out.1, (HI.out.1.swap i j (by rw [H.out.1]; omega) (by rw [H.out.1]; omega)).drew, Go.Sort.permIn_trans _ _ _ _ _ H.out.2.2.1 (Go.Sort.swp_permIn _ _ _ _ _ (by omega) (by omega) (by omega) (by omega) (by rw [H.out.1]; omega)), HI.out.2.swap hai hlt2 (by omega) (by rw [H.out.1]; omega) (hstop.out (by omega)) hlow.out⟩
                              go_region
                              clear hcw hfw hG HI hstop hlow
                              go_wp2

                              go_roundw
                              case rel => exact ⟨i + 1, j - 1, _, by go_num, by congr 1; omega, by omega, by omega, by omega, HE⟩
                              case measure => simp [intOf]; omega
                          · go_quiet (first | (go_at_call 35; refine Calls.quiet_of_same (less_quiet _ _ _)))
                            have HI := hide (⟨hI.out.1.drewN nq, hI.out.2⟩ : SRow w0 base g cap dk (wr.drewN nq) ∧ Parted dk a (c1 + 1) i j)
                            clear hI hcw hG
                            generalize wr.drewN nq = wq at HI ⊢
                            go_wp2
                            have hja : a ≤ j := by omega
                            have hgt : j < i := by omega
                            obtain ⟨G, hG⟩ : ∃ G : Nat → Int, Hid (∀ t, G t = dk[t]!) := ⟨fun t => dk[t]!, fun _ => rfl⟩
                            have hcw : ∀ t, t < n → wq.cell? ⟨g, t, none⟩ = some (.int .u64 (G t)) := fun t ht => by
                              rw [hG.out]; exact HI.out.1.cell t (by rw [H.out.1]; exact ht)
                            have hfw : ∀ t, t < n → wq.frozen? ⟨g, t, none⟩ = false := fun t ht => HI.out.1.frozen t
                            have hj1 : j < n := by omega
                            have hia : a < n := by omega
                            have HE : Hid (PartDone w0 base g cap d a (c1 + 1) (.returned (.tuple #[.int .i64 (j : Int), .bool false])) ((wq.setCell ⟨g, j, none⟩ (.int .u64 (G a))).setCell ⟨g, a, none⟩ (.int .u64 (G j))).drew) := by
                              rw [hG.out, hG.out]
                              have hd := HI.out.2.done hja hgt (by omega) (by rw [H.out.1]; omega)
                              exact ⟨j, false, swp dk j a, rfl, hja, by omega, Go.Sort.permIn_trans _ _ _ _ _ H.out.2.2.1 (Go.Sort.swp_permIn _ _ _ _ _ hja (by omega) (Nat.le_refl _) (by omega) (by rw [H.out.1]; omega)), (HI.out.1.swap j a (by rw [H.out.1]; omega) (by rw [H.out.1]; omega)).drew, hd.1, hd.2⟩
                            by_cases hje : j = a
                            · subst hje
                              go_region
                              go_wp2
                              go_ret2
                              exact HE.out
                            · go_region
                              go_wp2
                              go_ret2
                              exact HE.out
                      · go_wp2
                        go_roundw
                        case rel => exact ⟨i + 1, by go_num, by omega, by omega, hide ⟨hI.out.1.drewN _, ⟨fun x h1 h2 => by
                          by_cases e : x = i
                          · have := hB.out
                            rw [hG.out, hG.out] at this
                            rw [e]
                            simpa [ltInt] using this
                          · exact hI.out.2.lo x h1 (by omega), hI.out.2.hi⟩⟩⟩
                        case measure => simp [intOf]; omega
                    · go_quiet (first | (go_at_call 35; refine Calls.quiet_of_same (less_quiet _ _ _)))
                      have hstop := hide (fun h : i ≤ j0 => show dk[a]! ≤ dk[i]! from absurd h hlt)
                      have HI := hide (⟨hI.out.1.drewN nq, hI.out.2⟩ : SRow w0 base g cap dk (wr.drewN nq) ∧ Parted dk a (c1 + 1) i j0)
                      clear hI hcw hG hlt
                      generalize wr.drewN nq = wq at HI ⊢
                      go_wp2
                      go_loopw [11] (fun vj w2 => ∃ j : Nat, vj = .int .i64 j ∧ i ≤ j + 1 ∧ j ≤ j0 ∧ Hid (SRow w0 base g cap dk w2 ∧ Parted dk a (c1 + 1) i j)) (fun vj _ => (intOf vj).toNat)
                      case atStart => exact ⟨j0, rfl, by omega, by omega, HI⟩
                      case round =>
                        clear HI
                        obtain ⟨j, rfl, hjj, hjb, hI⟩ := hrel
                        obtain ⟨G, hG⟩ : ∃ G : Nat → Int, Hid (∀ t, G t = dk[t]!) := ⟨fun t => dk[t]!, fun _ => rfl⟩
                        have hcw : ∀ t, t < n → wr.cell? ⟨g, t, none⟩ = some (.int .u64 (G t)) := fun t ht => by
                          rw [hG.out]; exact hI.out.1.cell t (by rw [H.out.1]; exact ht)
                        go_wp2
                        by_cases hlj : i ≤ j
                        · have hj1 : j < n := by omega
                          have hia : a < n := by omega
                          go_quiet (first | (go_at_call 35; refine Calls.quiet_of_same (less_quiet _ _ _)))
                          obtain ⟨B, hB⟩ : ∃ B, Hid (ltInt (G j) (G a) = B) := ⟨_, rfl⟩
                          rw [hB.out]
                          cases B
                          · go_wp2
                            go_roundw
                            case rel => exact ⟨j - 1, by congr 1; omega, by omega, by omega, hide ⟨hI.out.1.drewN _, ⟨hI.out.2.lo, fun x h1 h2 => by
                              by_cases e : x = j
                              · have := hB.out
                                rw [hG.out, hG.out] at this
                                rw [e]
                                simpa [ltInt] using this
                              · exact hI.out.2.hi x (by omega) h2⟩⟩⟩
                            case measure => simp [intOf]; omega
                          · have hlow := hide (show dk[j]! < dk[a]! from by have := hB.out; rw [hG.out, hG.out] at this; simpa [ltInt] using this)
                            have hne : i ≠ j := fun e => by
                              have h1 := hstop.out (by omega)
                              have h2 := hlow.out
                              rw [e] at h1
                              omega
                            have HI := hide (⟨hI.out.1.drewN nq, hI.out.2⟩ : SRow w0 base g cap dk (wr.drewN nq) ∧ Parted dk a (c1 + 1) i j)
                            clear hI hB hcw hG
                            generalize wr.drewN nq = wq at HI ⊢
                            have hlt2 : i < j := by omega
                            go_wp2
                            obtain ⟨G, hG⟩ : ∃ G : Nat → Int, Hid (∀ t, G t = dk[t]!) := ⟨fun t => dk[t]!, fun _ => rfl⟩
                            have hcw : ∀ t, t < n → wq.cell? ⟨g, t, none⟩ = some (.int .u64 (G t)) := fun t ht => by
                              rw [hG.out]; exact HI.out.1.cell t (by rw [H.out.1]; exact ht)
                            have hfw : ∀ t, t < n → wq.frozen? ⟨g, t, none⟩ = false := fun t ht => HI.out.1.frozen t
                            have hi1 : i < n := by omega
                            have hj1 : j < n := by omega
                            have HE : Hid ((swp dk i j).size = n ∧ SRow w0 base g cap (swp dk i j) ((wq.setCell ⟨g, i, none⟩ (.int .u64 (G j))).setCell ⟨g, j, none⟩ (.int .u64 (G i))).drew ∧ PermIn a (c1 + 1) d (swp dk i j) ∧ Parted (swp dk i j) a (c1 + 1) (i + 1) (j - 1)) := by
                              rw [hG.out, hG.out]
                              exact ⟨by rw [size_swpI]; exact H.out.1, (HI.out.1.swap i j (by rw [H.out.1]; omega) (by rw [H.out.1]; omega)).drew, Go.Sort.permIn_trans _ _ _ _ _ H.out.2.2.1 (Go.Sort.swp_permIn _ _ _ _ _ (by omega) (by omega) (by omega) (by omega) (by rw [H.out.1]; omega)), HI.out.2.swap hai hlt2 (by omega) (by rw [H.out.1]; omega) (hstop.out (by omega)) hlow.out⟩
                            go_region
                            clear hcw hfw hG HI hstop hlow
                            go_wp2

                            go_roundw
                            case rel => exact ⟨i + 1, j - 1, _, by go_num, by congr 1; omega, by omega, by omega, by omega, HE⟩
                            case measure => simp [intOf]; omega
                        · go_quiet (first | (go_at_call 35; refine Calls.quiet_of_same (less_quiet _ _ _)))
                          have HI := hide (⟨hI.out.1.drewN nq, hI.out.2⟩ : SRow w0 base g cap dk (wr.drewN nq) ∧ Parted dk a (c1 + 1) i j)
                          clear hI hcw hG
                          generalize wr.drewN nq = wq at HI ⊢
                          go_wp2
                          have hja : a ≤ j := by omega
                          have hgt : j < i := by omega
                          obtain ⟨G, hG⟩ : ∃ G : Nat → Int, Hid (∀ t, G t = dk[t]!) := ⟨fun t => dk[t]!, fun _ => rfl⟩
                          have hcw : ∀ t, t < n → wq.cell? ⟨g, t, none⟩ = some (.int .u64 (G t)) := fun t ht => by
                            rw [hG.out]; exact HI.out.1.cell t (by rw [H.out.1]; exact ht)
                          have hfw : ∀ t, t < n → wq.frozen? ⟨g, t, none⟩ = false := fun t ht => HI.out.1.frozen t
                          have hj1 : j < n := by omega
                          have hia : a < n := by omega
                          have HE : Hid (PartDone w0 base g cap d a (c1 + 1) (.returned (.tuple #[.int .i64 (j : Int), .bool false])) ((wq.setCell ⟨g, j, none⟩ (.int .u64 (G a))).setCell ⟨g, a, none⟩ (.int .u64 (G j))).drew) := by
                            rw [hG.out, hG.out]
                            have hd := HI.out.2.done hja hgt (by omega) (by rw [H.out.1]; omega)
                            exact ⟨j, false, swp dk j a, rfl, hja, by omega, Go.Sort.permIn_trans _ _ _ _ _ H.out.2.2.1 (Go.Sort.swp_permIn _ _ _ _ _ hja (by omega) (Nat.le_refl _) (by omega) (by rw [H.out.1]; omega)), (HI.out.1.swap j a (by rw [H.out.1]; omega) (by rw [H.out.1]; omega)).drew, hd.1, hd.2⟩
                          by_cases hje : j = a
                          · subst hje
                            go_region
                            go_wp2
                            go_ret2
                            exact HE.out
                          · go_region
                            go_wp2
                            go_ret2
                            exact HE.out
            · go_quiet (first | (go_at_call 35; refine Calls.quiet_of_same (less_quiet _ _ _)))
              have HI := hide (⟨hI.out.1.drewN nq, hI.out.2⟩ : SRow w0 base g cap d1 (wr.drewN nq) ∧ Parted d1 a (c1 + 1) i j)
              clear hI hcw hG
              generalize wr.drewN nq = wq at HI ⊢
              go_wp2
              have hja : a ≤ j := by omega
              have hgt : j < i := by omega
              obtain ⟨G, hG⟩ : ∃ G : Nat → Int, Hid (∀ t, G t = d1[t]!) := ⟨fun t => d1[t]!, fun _ => rfl⟩
              have hcw : ∀ t, t < n → wq.cell? ⟨g, t, none⟩ = some (.int .u64 (G t)) := fun t ht => by
                rw [hG.out]; exact HI.out.1.cell t (by rw [H.out.1]; exact ht)
              have hfw : ∀ t, t < n → wq.frozen? ⟨g, t, none⟩ = false := fun t ht => HI.out.1.frozen t
              have hj1 : j < n := by omega
              have hia : a < n := by omega
              have HE : Hid (PartDone w0 base g cap d a (c1 + 1) (.returned (.tuple #[.int .i64 (j : Int), .bool true])) ((wq.setCell ⟨g, j, none⟩ (.int .u64 (G a))).setCell ⟨g, a, none⟩ (.int .u64 (G j))).drew) := by
                rw [hG.out, hG.out]
                have hd := HI.out.2.done hja hgt (by omega) (by rw [H.out.1]; omega)
                exact ⟨j, true, swp d1 j a, rfl, hja, by omega, Go.Sort.permIn_trans _ _ _ _ _ H.out.2.2.1 (Go.Sort.swp_permIn _ _ _ _ _ hja (by omega) (Nat.le_refl _) (by omega) (by rw [H.out.1]; omega)), (HI.out.1.swap j a (by rw [H.out.1]; omega) (by rw [H.out.1]; omega)).drew, hd.1, hd.2⟩
              by_cases hje : j = a
              · subst hje
                go_region
                go_wp2
                go_ret2
                exact HE.out
              · go_region
                go_wp2
                go_ret2
                exact HE.out
        · go_wp2
          go_roundw
          case rel => exact ⟨i + 1, by go_num, by omega, by omega, hide ⟨hI.out.1.drewN _, ⟨fun x h1 h2 => by
            by_cases e : x = i
            · have := hB.out
              rw [hG.out, hG.out] at this
              rw [e]
              simpa [ltInt] using this
            · exact hI.out.2.lo x h1 (by omega), hI.out.2.hi⟩⟩⟩
          case measure => simp [intOf]; omega
      · go_quiet (first | (go_at_call 35; refine Calls.quiet_of_same (less_quiet _ _ _)))
        have hstop := hide (fun h : i ≤ c1 => show d1[a]! ≤ d1[i]! from absurd h hlt)
        have HI := hide (⟨hI.out.1.drewN nq, hI.out.2⟩ : SRow w0 base g cap d1 (wr.drewN nq) ∧ Parted d1 a (c1 + 1) i c1)
        clear hI hcw hG hlt
        generalize wr.drewN nq = wq at HI ⊢
        go_wp2
        go_loopw [11] (fun vj w2 => ∃ j : Nat, vj = .int .i64 j ∧ i ≤ j + 1 ∧ j ≤ c1 ∧ Hid (SRow w0 base g cap d1 w2 ∧ Parted d1 a (c1 + 1) i j)) (fun vj _ => (intOf vj).toNat)
        case atStart => exact ⟨c1, rfl, by omega, by omega, HI⟩
        case round =>
          clear HI
          obtain ⟨j, rfl, hjj, hjb, hI⟩ := hrel
          obtain ⟨G, hG⟩ : ∃ G : Nat → Int, Hid (∀ t, G t = d1[t]!) := ⟨fun t => d1[t]!, fun _ => rfl⟩
          have hcw : ∀ t, t < n → wr.cell? ⟨g, t, none⟩ = some (.int .u64 (G t)) := fun t ht => by
            rw [hG.out]; exact hI.out.1.cell t (by rw [H.out.1]; exact ht)
          go_wp2
          by_cases hlj : i ≤ j
          · have hj1 : j < n := by omega
            have hia : a < n := by omega
            go_quiet (first | (go_at_call 35; refine Calls.quiet_of_same (less_quiet _ _ _)))
            obtain ⟨B, hB⟩ : ∃ B, Hid (ltInt (G j) (G a) = B) := ⟨_, rfl⟩
            rw [hB.out]
            cases B
            · go_wp2
              go_roundw
              case rel => exact ⟨j - 1, by congr 1; omega, by omega, by omega, hide ⟨hI.out.1.drewN _, ⟨hI.out.2.lo, fun x h1 h2 => by
                by_cases e : x = j
                · have := hB.out
                  rw [hG.out, hG.out] at this
                  rw [e]
                  simpa [ltInt] using this
                · exact hI.out.2.hi x (by omega) h2⟩⟩⟩
              case measure => simp [intOf]; omega
            · have hlow := hide (show d1[j]! < d1[a]! from by have := hB.out; rw [hG.out, hG.out] at this; simpa [ltInt] using this)
              have hne : i ≠ j := fun e => by
                have h1 := hstop.out (by omega)
                have h2 := hlow.out
                rw [e] at h1
                omega
              have HI := hide (⟨hI.out.1.drewN nq, hI.out.2⟩ : SRow w0 base g cap d1 (wr.drewN nq) ∧ Parted d1 a (c1 + 1) i j)
              clear hI hB hcw hG
              generalize wr.drewN nq = wq at HI ⊢
              have hlt2 : i < j := by omega
              go_wp2
              obtain ⟨G, hG⟩ : ∃ G : Nat → Int, Hid (∀ t, G t = d1[t]!) := ⟨fun t => d1[t]!, fun _ => rfl⟩
              have hcw : ∀ t, t < n → wq.cell? ⟨g, t, none⟩ = some (.int .u64 (G t)) := fun t ht => by
                rw [hG.out]; exact HI.out.1.cell t (by rw [H.out.1]; exact ht)
              have hfw : ∀ t, t < n → wq.frozen? ⟨g, t, none⟩ = false := fun t ht => HI.out.1.frozen t
              have hi1 : i < n := by omega
              have hj1 : j < n := by omega
              have HE : Hid ((swp d1 i j).size = n ∧ SRow w0 base g cap (swp d1 i j) ((wq.setCell ⟨g, i, none⟩ (.int .u64 (G j))).setCell ⟨g, j, none⟩ (.int .u64 (G i))).drew ∧ PermIn a (c1 + 1) d (swp d1 i j) ∧ Parted (swp d1 i j) a (c1 + 1) (i + 1) (j - 1)) := by
                rw [hG.out, hG.out]
                exact ⟨by rw [size_swpI]; exact H.out.1, (HI.out.1.swap i j (by rw [H.out.1]; omega) (by rw [H.out.1]; omega)).drew, Go.Sort.permIn_trans _ _ _ _ _ H.out.2.2.1 (Go.Sort.swp_permIn _ _ _ _ _ (by omega) (by omega) (by omega) (by omega) (by rw [H.out.1]; omega)), HI.out.2.swap hai hlt2 (by omega) (by rw [H.out.1]; omega) (hstop.out (by omega)) hlow.out⟩
              go_region
              clear hcw hfw hG HI hstop hlow
              go_wp2
              clear H
              go_loopw [10, 11] (fun vi vj w2 => ∃ (i0 j0 : Nat) (dk : Array Int), vi = .int .i64 i0 ∧ vj = .int .i64 j0 ∧ a < i0 ∧ i0 ≤ j0 + 1 ∧ j0 ≤ c1 ∧ Hid (dk.size = n ∧ SRow w0 base g cap dk w2 ∧ PermIn a (c1 + 1) d dk ∧ Parted dk a (c1 + 1) i0 j0)) (fun vi vj _ => (intOf vj).toNat)
              case atStart => exact ⟨i + 1, j - 1, _, by go_num, by congr 1; omega, by omega, by omega, by omega, HE⟩
              case round =>
                clear HE
                obtain ⟨i0, j0, dk, rfl, rfl, hai0, hij0, hj0, H⟩ := hrel
                go_wp2
                go_loopw [10] (fun vi w2 => ∃ i : Nat, vi = .int .i64 i ∧ a < i ∧ i ≤ j0 + 1 ∧ Hid (SRow w0 base g cap dk w2 ∧ Parted dk a (c1 + 1) i j0)) (fun vi _ => j0 + 1 - (intOf vi).toNat)
                case atStart => exact ⟨i0, by first | rfl | go_num, by omega, by omega, hide ⟨H.out.2.1, H.out.2.2.2⟩⟩
                case round =>
                  obtain ⟨i, rfl, hai, hij, hI⟩ := hrel
                  obtain ⟨G, hG⟩ : ∃ G : Nat → Int, Hid (∀ t, G t = dk[t]!) := ⟨fun t => dk[t]!, fun _ => rfl⟩
                  have hcw : ∀ t, t < n → wr.cell? ⟨g, t, none⟩ = some (.int .u64 (G t)) := fun t ht => by
                    rw [hG.out]; exact hI.out.1.cell t (by rw [H.out.1]; exact ht)
                  go_wp2
                  by_cases hlt : i ≤ j0
                  · have hi1 : i < n := by omega
                    have hia : a < n := by omega
                    go_quiet (first | (go_at_call 35; refine Calls.quiet_of_same (less_quiet _ _ _)))
                    obtain ⟨B, hB⟩ : ∃ B, Hid (ltInt (G i) (G a) = B) := ⟨_, rfl⟩
                    rw [hB.out]
                    cases B
                    · have hstop := hide (fun _ : i ≤ j0 => show dk[a]! ≤ dk[i]! from by have := hB.out; rw [hG.out, hG.out] at this; simpa [ltInt] using this)
                      have HI := hide (⟨hI.out.1.drewN nq, hI.out.2⟩ : SRow w0 base g cap dk (wr.drewN nq) ∧ Parted dk a (c1 + 1) i j0)
                      clear hI hB hcw hG hlt hi1
                      generalize wr.drewN nq = wq at HI ⊢
                      go_wp2
                      go_loopw [11] (fun vj w2 => ∃ j : Nat, vj = .int .i64 j ∧ i ≤ j + 1 ∧ j ≤ j0 ∧ Hid (SRow w0 base g cap dk w2 ∧ Parted dk a (c1 + 1) i j)) (fun vj _ => (intOf vj).toNat)
                      case atStart => exact ⟨j0, rfl, by omega, by omega, HI⟩
                      case round =>
                        clear HI
                        obtain ⟨j, rfl, hjj, hjb, hI⟩ := hrel
                        obtain ⟨G, hG⟩ : ∃ G : Nat → Int, Hid (∀ t, G t = dk[t]!) := ⟨fun t => dk[t]!, fun _ => rfl⟩
                        have hcw : ∀ t, t < n → wr.cell? ⟨g, t, none⟩ = some (.int .u64 (G t)) := fun t ht => by
                          rw [hG.out]; exact hI.out.1.cell t (by rw [H.out.1]; exact ht)
                        go_wp2
                        by_cases hlj : i ≤ j
                        · have hj1 : j < n := by omega
                          have hia : a < n := by omega
                          go_quiet (first | (go_at_call 35; refine Calls.quiet_of_same (less_quiet _ _ _)))
                          obtain ⟨B, hB⟩ : ∃ B, Hid (ltInt (G j) (G a) = B) := ⟨_, rfl⟩
                          rw [hB.out]
                          cases B
                          · go_wp2
                            go_roundw
                            case rel => exact ⟨j - 1, by congr 1; omega, by omega, by omega, hide ⟨hI.out.1.drewN _, ⟨hI.out.2.lo, fun x h1 h2 => by
                              by_cases e : x = j
                              · have := hB.out
                                rw [hG.out, hG.out] at this
                                rw [e]
                                simpa [ltInt] using this
                              · exact hI.out.2.hi x (by omega) h2⟩⟩⟩
                            case measure => simp [intOf]; omega
                          · have hlow := hide (show dk[j]! < dk[a]! from by have := hB.out; rw [hG.out, hG.out] at this; simpa [ltInt] using this)
                            have hne : i ≠ j := fun e => by
                              have h1 := hstop.out (by omega)
                              have h2 := hlow.out
                              rw [e] at h1
                              omega
                            have HI := hide (⟨hI.out.1.drewN nq, hI.out.2⟩ : SRow w0 base g cap dk (wr.drewN nq) ∧ Parted dk a (c1 + 1) i j)
                            clear hI hB hcw hG
                            generalize wr.drewN nq = wq at HI ⊢
                            have hlt2 : i < j := by omega
                            go_wp2
                            obtain ⟨G, hG⟩ : ∃ G : Nat → Int, Hid (∀ t, G t = dk[t]!) := ⟨fun t => dk[t]!, fun _ => rfl⟩
                            have hcw : ∀ t, t < n → wq.cell? ⟨g, t, none⟩ = some (.int .u64 (G t)) := fun t ht => by
                              rw [hG.out]; exact HI.out.1.cell t (by rw [H.out.1]; exact ht)
                            have hfw : ∀ t, t < n → wq.frozen? ⟨g, t, none⟩ = false := fun t ht => HI.out.1.frozen t
                            have hi1 : i < n := by omega
                            have hj1 : j < n := by omega
                            have HE : Hid ((swp dk i j).size = n ∧ SRow w0 base g cap (swp dk i j) ((wq.setCell ⟨g, i, none⟩ (.int .u64 (G j))).setCell ⟨g, j, none⟩ (.int .u64 (G i))).drew ∧ PermIn a (c1 + 1) d (swp dk i j) ∧ Parted (swp dk i j) a (c1 + 1) (i + 1) (j - 1)) := by
                              rw [hG.out, hG.out]
                              exact ⟨by rw [size_swpI]; exact H.out.1, (HI.out.1.swap i j (by rw [H.out.1]; omega) (by rw [H.out.1]; omega)).drew, Go.Sort.permIn_trans _ _ _ _ _ H.out.2.2.1 (Go.Sort.swp_permIn _ _ _ _ _ (by omega) (by omega) (by omega) (by omega) (by rw [H.out.1]; omega)), HI.out.2.swap hai hlt2 (by omega) (by rw [H.out.1]; omega) (hstop.out (by omega)) hlow.out⟩
                            go_region
                            clear hcw hfw hG HI hstop hlow
                            go_wp2

                            go_roundw
                            case rel => exact ⟨i + 1, j - 1, _, by go_num, by congr 1; omega, by omega, by omega, by omega, HE⟩
                            case measure => simp [intOf]; omega
                        · go_quiet (first | (go_at_call 35; refine Calls.quiet_of_same (less_quiet _ _ _)))
                          have HI := hide (⟨hI.out.1.drewN nq, hI.out.2⟩ : SRow w0 base g cap dk (wr.drewN nq) ∧ Parted dk a (c1 + 1) i j)
                          clear hI hcw hG
                          generalize wr.drewN nq = wq at HI ⊢
                          go_wp2
                          have hja : a ≤ j := by omega
                          have hgt : j < i := by omega
                          obtain ⟨G, hG⟩ : ∃ G : Nat → Int, Hid (∀ t, G t = dk[t]!) := ⟨fun t => dk[t]!, fun _ => rfl⟩
                          have hcw : ∀ t, t < n → wq.cell? ⟨g, t, none⟩ = some (.int .u64 (G t)) := fun t ht => by
                            rw [hG.out]; exact HI.out.1.cell t (by rw [H.out.1]; exact ht)
                          have hfw : ∀ t, t < n → wq.frozen? ⟨g, t, none⟩ = false := fun t ht => HI.out.1.frozen t
                          have hj1 : j < n := by omega
                          have hia : a < n := by omega
                          have HE : Hid (PartDone w0 base g cap d a (c1 + 1) (.returned (.tuple #[.int .i64 (j : Int), .bool false])) ((wq.setCell ⟨g, j, none⟩ (.int .u64 (G a))).setCell ⟨g, a, none⟩ (.int .u64 (G j))).drew) := by
                            rw [hG.out, hG.out]
                            have hd := HI.out.2.done hja hgt (by omega) (by rw [H.out.1]; omega)
                            exact ⟨j, false, swp dk j a, rfl, hja, by omega, Go.Sort.permIn_trans _ _ _ _ _ H.out.2.2.1 (Go.Sort.swp_permIn _ _ _ _ _ hja (by omega) (Nat.le_refl _) (by omega) (by rw [H.out.1]; omega)), (HI.out.1.swap j a (by rw [H.out.1]; omega) (by rw [H.out.1]; omega)).drew, hd.1, hd.2⟩
                          by_cases hje : j = a
                          · subst hje
                            go_region
                            go_wp2
                            go_ret2
                            exact HE.out
                          · go_region
                            go_wp2
                            go_ret2
                            exact HE.out
                    · go_wp2
                      go_roundw
                      case rel => exact ⟨i + 1, by go_num, by omega, by omega, hide ⟨hI.out.1.drewN _, ⟨fun x h1 h2 => by
                        by_cases e : x = i
                        · have := hB.out
                          rw [hG.out, hG.out] at this
                          rw [e]
                          simpa [ltInt] using this
                        · exact hI.out.2.lo x h1 (by omega), hI.out.2.hi⟩⟩⟩
                      case measure => simp [intOf]; omega
                  · go_quiet (first | (go_at_call 35; refine Calls.quiet_of_same (less_quiet _ _ _)))
                    have hstop := hide (fun h : i ≤ j0 => show dk[a]! ≤ dk[i]! from absurd h hlt)
                    have HI := hide (⟨hI.out.1.drewN nq, hI.out.2⟩ : SRow w0 base g cap dk (wr.drewN nq) ∧ Parted dk a (c1 + 1) i j0)
                    clear hI hcw hG hlt
                    generalize wr.drewN nq = wq at HI ⊢
                    go_wp2
                    go_loopw [11] (fun vj w2 => ∃ j : Nat, vj = .int .i64 j ∧ i ≤ j + 1 ∧ j ≤ j0 ∧ Hid (SRow w0 base g cap dk w2 ∧ Parted dk a (c1 + 1) i j)) (fun vj _ => (intOf vj).toNat)
                    case atStart => exact ⟨j0, rfl, by omega, by omega, HI⟩
                    case round =>
                      clear HI
                      obtain ⟨j, rfl, hjj, hjb, hI⟩ := hrel
                      obtain ⟨G, hG⟩ : ∃ G : Nat → Int, Hid (∀ t, G t = dk[t]!) := ⟨fun t => dk[t]!, fun _ => rfl⟩
                      have hcw : ∀ t, t < n → wr.cell? ⟨g, t, none⟩ = some (.int .u64 (G t)) := fun t ht => by
                        rw [hG.out]; exact hI.out.1.cell t (by rw [H.out.1]; exact ht)
                      go_wp2
                      by_cases hlj : i ≤ j
                      · have hj1 : j < n := by omega
                        have hia : a < n := by omega
                        go_quiet (first | (go_at_call 35; refine Calls.quiet_of_same (less_quiet _ _ _)))
                        obtain ⟨B, hB⟩ : ∃ B, Hid (ltInt (G j) (G a) = B) := ⟨_, rfl⟩
                        rw [hB.out]
                        cases B
                        · go_wp2
                          go_roundw
                          case rel => exact ⟨j - 1, by congr 1; omega, by omega, by omega, hide ⟨hI.out.1.drewN _, ⟨hI.out.2.lo, fun x h1 h2 => by
                            by_cases e : x = j
                            · have := hB.out
                              rw [hG.out, hG.out] at this
                              rw [e]
                              simpa [ltInt] using this
                            · exact hI.out.2.hi x (by omega) h2⟩⟩⟩
                          case measure => simp [intOf]; omega
                        · have hlow := hide (show dk[j]! < dk[a]! from by have := hB.out; rw [hG.out, hG.out] at this; simpa [ltInt] using this)
                          have hne : i ≠ j := fun e => by
                            have h1 := hstop.out (by omega)
                            have h2 := hlow.out
                            rw [e] at h1
                            omega
                          have HI := hide (⟨hI.out.1.drewN nq, hI.out.2⟩ : SRow w0 base g cap dk (wr.drewN nq) ∧ Parted dk a (c1 + 1) i j)
                          clear hI hB hcw hG
                          generalize wr.drewN nq = wq at HI ⊢
                          have hlt2 : i < j := by omega
                          go_wp2
                          obtain ⟨G, hG⟩ : ∃ G : Nat → Int, Hid (∀ t, G t = dk[t]!) := ⟨fun t => dk[t]!, fun _ => rfl⟩
                          have hcw : ∀ t, t < n → wq.cell? ⟨g, t, none⟩ = some (.int .u64 (G t)) := fun t ht => by
                            rw [hG.out]; exact HI.out.1.cell t (by rw [H.out.1]; exact ht)
                          have hfw : ∀ t, t < n → wq.frozen? ⟨g, t, none⟩ = false := fun t ht => HI.out.1.frozen t
                          have hi1 : i < n := by omega
                          have hj1 : j < n := by omega
                          have HE : Hid ((swp dk i j).size = n ∧ SRow w0 base g cap (swp dk i j) ((wq.setCell ⟨g, i, none⟩ (.int .u64 (G j))).setCell ⟨g, j, none⟩ (.int .u64 (G i))).drew ∧ PermIn a (c1 + 1) d (swp dk i j) ∧ Parted (swp dk i j) a (c1 + 1) (i + 1) (j - 1)) := by
                            rw [hG.out, hG.out]
                            exact ⟨by rw [size_swpI]; exact H.out.1, (HI.out.1.swap i j (by rw [H.out.1]; omega) (by rw [H.out.1]; omega)).drew, Go.Sort.permIn_trans _ _ _ _ _ H.out.2.2.1 (Go.Sort.swp_permIn _ _ _ _ _ (by omega) (by omega) (by omega) (by omega) (by rw [H.out.1]; omega)), HI.out.2.swap hai hlt2 (by omega) (by rw [H.out.1]; omega) (hstop.out (by omega)) hlow.out⟩
                          go_region
                          clear hcw hfw hG HI hstop hlow
                          go_wp2

                          go_roundw
                          case rel => exact ⟨i + 1, j - 1, _, by go_num, by congr 1; omega, by omega, by omega, by omega, HE⟩
                          case measure => simp [intOf]; omega
                      · go_quiet (first | (go_at_call 35; refine Calls.quiet_of_same (less_quiet _ _ _)))
                        have HI := hide (⟨hI.out.1.drewN nq, hI.out.2⟩ : SRow w0 base g cap dk (wr.drewN nq) ∧ Parted dk a (c1 + 1) i j)
                        clear hI hcw hG
                        generalize wr.drewN nq = wq at HI ⊢
                        go_wp2
                        have hja : a ≤ j := by omega
                        have hgt : j < i := by omega
                        obtain ⟨G, hG⟩ : ∃ G : Nat → Int, Hid (∀ t, G t = dk[t]!) := ⟨fun t => dk[t]!, fun _ => rfl⟩
                        have hcw : ∀ t, t < n → wq.cell? ⟨g, t, none⟩ = some (.int .u64 (G t)) := fun t ht => by
                          rw [hG.out]; exact HI.out.1.cell t (by rw [H.out.1]; exact ht)
                        have hfw : ∀ t, t < n → wq.frozen? ⟨g, t, none⟩ = false := fun t ht => HI.out.1.frozen t
                        have hj1 : j < n := by omega
                        have hia : a < n := by omega
                        have HE : Hid (PartDone w0 base g cap d a (c1 + 1) (.returned (.tuple #[.int .i64 (j : Int), .bool false])) ((wq.setCell ⟨g, j, none⟩ (.int .u64 (G a))).setCell ⟨g, a, none⟩ (.int .u64 (G j))).drew) := by
                          rw [hG.out, hG.out]
                          have hd := HI.out.2.done hja hgt (by omega) (by rw [H.out.1]; omega)
                          exact ⟨j, false, swp dk j a, rfl, hja, by omega, Go.Sort.permIn_trans _ _ _ _ _ H.out.2.2.1 (Go.Sort.swp_permIn _ _ _ _ _ hja (by omega) (Nat.le_refl _) (by omega) (by rw [H.out.1]; omega)), (HI.out.1.swap j a (by rw [H.out.1]; omega) (by rw [H.out.1]; omega)).drew, hd.1, hd.2⟩
                        by_cases hje : j = a
                        · subst hje
                          go_region
                          go_wp2
                          go_ret2
                          exact HE.out
                        · go_region
                          go_wp2
                          go_ret2
                          exact HE.out
          · go_quiet (first | (go_at_call 35; refine Calls.quiet_of_same (less_quiet _ _ _)))
            have HI := hide (⟨hI.out.1.drewN nq, hI.out.2⟩ : SRow w0 base g cap d1 (wr.drewN nq) ∧ Parted d1 a (c1 + 1) i j)
            clear hI hcw hG
            generalize wr.drewN nq = wq at HI ⊢
            go_wp2
            have hja : a ≤ j := by omega
            have hgt : j < i := by omega
            obtain ⟨G, hG⟩ : ∃ G : Nat → Int, Hid (∀ t, G t = d1[t]!) := ⟨fun t => d1[t]!, fun _ => rfl⟩
            have hcw : ∀ t, t < n → wq.cell? ⟨g, t, none⟩ = some (.int .u64 (G t)) := fun t ht => by
              rw [hG.out]; exact HI.out.1.cell t (by rw [H.out.1]; exact ht)
            have hfw : ∀ t, t < n → wq.frozen? ⟨g, t, none⟩ = false := fun t ht => HI.out.1.frozen t
            have hj1 : j < n := by omega
            have hia : a < n := by omega
            have HE : Hid (PartDone w0 base g cap d a (c1 + 1) (.returned (.tuple #[.int .i64 (j : Int), .bool true])) ((wq.setCell ⟨g, j, none⟩ (.int .u64 (G a))).setCell ⟨g, a, none⟩ (.int .u64 (G j))).drew) := by
              rw [hG.out, hG.out]
              have hd := HI.out.2.done hja hgt (by omega) (by rw [H.out.1]; omega)
              exact ⟨j, true, swp d1 j a, rfl, hja, by omega, Go.Sort.permIn_trans _ _ _ _ _ H.out.2.2.1 (Go.Sort.swp_permIn _ _ _ _ _ hja (by omega) (Nat.le_refl _) (by omega) (by rw [H.out.1]; omega)), (HI.out.1.swap j a (by rw [H.out.1]; omega) (by rw [H.out.1]; omega)).drew, hd.1, hd.2⟩
            by_cases hje : j = a
            · subst hje
              go_region
              go_wp2
              go_ret2
              exact HE.out
            · go_region
              go_wp2
              go_ret2
              exact HE.out
    -- WALK-END
end Go.Proofs.YtphahkjjmomjcaaDoor

/- Contracts of slices.siftDownOrdered and slices.heapSortOrdered of numbers of 64 bits without a sign. -/
import Derived.Test.YtphahkjjmomjcaaDoorTSort

import Derived.Sort.LotB

import Derived.BigRegion

namespace Go.Proofs.YtphahkjjmomjcaaDoor

open Go.ChangeShapes Go.WideShapes Go.ChangeAt Go.RowKit

open Go.Sort (swp ltInt PermIn SortedIn SWO siftDown heapBuild heapPop heapSort)

set_option linter.unusedVariables false

/-- the greater child -/
def chld (hi b0 r : Nat) (d : Array Int) : Nat := if 2 * r + 1 + 1 < hi && ltInt d[b0 + (2 * r + 1)]! d[b0 + (2 * r + 1) + 1]! then 2 * r + 2 else 2 * r + 1
theorem sift_eq (hi b0 r : Nat) (d : Array Int) : siftDown ltInt hi b0 r d = if 2 * r + 1 ≥ hi then d else if !ltInt d[b0 + r]! d[b0 + chld hi b0 r d]! then d else siftDown ltInt hi b0 (chld hi b0 r d) (swp d (b0 + r) (b0 + chld hi b0 r d)) := by
  conv => lhs; rw [siftDown]
  by_cases h : 2 * r + 1 ≥ hi
  · rw [dif_pos h, if_pos h]
  · rw [dif_neg h, if_neg h]
    unfold chld
    by_cases h2 : (2 * r + 1 + 1 < hi && ltInt d[b0 + (2 * r + 1)]! d[b0 + (2 * r + 1) + 1]!) = true
    · rw [if_pos h2, if_pos h2]
      by_cases h3 : (!ltInt d[b0 + r]! d[b0 + (2 * r + 2)]!) = true
      · rw [if_pos h3, if_pos h3]
      · rw [if_neg h3, if_neg h3, dif_pos (by simp at h2; omega)]
    · rw [if_neg h2, if_neg h2]
set_option maxRecDepth 100000 in
set_option maxRecDepth 100000 in
set_option maxHeartbeats 4000000 in
theorem sift_any (base g cap b0 hi lo : Nat) (d : Array Int) (w0 w : World) (hR : SRow w0 base g cap d w) (hb : b0 + hi ≤ d.size) (hlo : lo ≤ hi) (hsz : d.size < 1152921504606846976) :
    Calls Tryd.prog 54 #[.slice (some ⟨g, 0, none⟩) d.size cap, .int .i64 lo, .int .i64 hi, .int .i64 b0] w fun e w' =>
      e = .returned (.tuple #[]) ∧ SRow w0 base g cap (siftDown ltInt hi b0 lo d) w' := by
  obtain ⟨n, hn⟩ : ∃ n, d.size = n := ⟨_, rfl⟩
  have HR := hide hR
  have HN := hide hn
  rw [hn] at hb hsz ⊢
  clear hR hn
  go_enter Tryd.func54, Tryd.ntmps54
  go_wp2
  go_loopw [8] (fun vr wr => ∃ (r : Nat) (dk : Array Int), vr = .int .i64 r ∧ r ≤ hi ∧ Hid (dk.size = n ∧ SRow w0 base g cap dk wr ∧ siftDown ltInt hi b0 r dk = siftDown ltInt hi b0 lo d)) (fun vr _ => hi - (intOf vr).toNat)
  case atStart => exact ⟨lo, d, rfl, hlo, hide ⟨HN.out, HR.out, rfl⟩⟩
  case round =>
    clear HR
    obtain ⟨r, dk, rfl, hrh, hI⟩ := hrel
    obtain ⟨G, hG⟩ : ∃ G : Nat → Int, Hid (∀ t, G t = dk[t]!) := ⟨fun t => dk[t]!, fun _ => rfl⟩
    have hcw : ∀ t, t < n → wr.cell? ⟨g, t, none⟩ = some (.int .u64 (G t)) := fun t ht => by
      rw [hG.out]; exact hI.out.2.1.cell t (by rw [hI.out.1]; exact ht)
    have hfw : ∀ t, t < n → wr.frozen? ⟨g, t, none⟩ = false := fun t ht => hI.out.2.1.frozen t
    by_cases h1 : 2 * r + 1 < hi
    · have h1i : ¬ (hi : Int) ≤ 2 * (r : Int) + 1 := by omega
      go_upto_region 3 with fail
      obtain ⟨c, hc⟩ : ∃ c, Hid (2 * r + 1 = c) := ⟨_, rfl⟩
      have hci : 2 * (r : Int) + 1 = (c : Int) := by have := hc.out; omega
      rw [hci]
      rw [hc.out] at h1
      have hrc : r < c := by have := hc.out; omega
      clear hci h1i
      by_cases h2 : c + 1 < hi
      · have hc1 : b0 + c < n := by omega
        have hc2 : b0 + c + 1 < n := by omega
        have h2i : (c : Int) + 1 < (hi : Int) := by omega
        have v1 : IntKind.i64.wrap ((c : Int) + 1) = (c : Int) + 1 := by rw [IntKind.wrap_i64]; omega
        have v2 : IntKind.i64.wrap ((b0 : Int) + (c : Int)) = ((b0 + c : Nat) : Int) := by rw [IntKind.wrap_i64]; omega
        have v3 : IntKind.i64.wrap (((b0 + c : Nat) : Int) + 1) = ((b0 + c + 1 : Nat) : Int) := by rw [IntKind.wrap_i64]; omega
        go_quiet (first | (go_at_call 35; refine Calls.quiet_of_same (less_quiet _ _ _)))
        obtain ⟨B, hB⟩ : ∃ B, Hid (ltInt (G (b0 + c)) (G (b0 + c + 1)) = B) := ⟨_, rfl⟩
        rw [hB.out]
        have HW := hide (hI.out.2.1.drewN nq)
        have hcw2 : ∀ t, t < n → (wr.drewN nq).cell? ⟨g, t, none⟩ = some (.int .u64 (G t)) := hcw
        have hfw2 : ∀ t, t < n → (wr.drewN nq).frozen? ⟨g, t, none⟩ = false := hfw
        clear hcw hfw
        generalize wr.drewN nq = wq at HW hcw2 hfw2 ⊢
        cases B
        · obtain ⟨q, hqc, hq⟩ : ∃ q, q = c ∧ Hid (chld hi b0 r dk = q) := ⟨c, rfl, by
            rw [hG.out, hG.out] at hB
            show _ = _
            unfold chld
            rw [hc.out, hB.out]
            simp⟩
          have hqi : q < hi := by omega
          have hrq : r < q := by omega
          rw [← hqc]
          clear hB v1 v2 v3 h2i hqc
          go_upto_region 5 with fail
          have hE1 : Hid (siftDown ltInt hi b0 r dk = if !ltInt dk[b0 + r]! dk[b0 + q]! then dk else siftDown ltInt hi b0 q (swp dk (b0 + r) (b0 + q))) := by
            show _ = _
            rw [sift_eq, if_neg (by have := hc.out; omega), hq.out]
          have hqn : b0 + q < n := by omega
          have hrn : b0 + r < n := by omega
          have x1 : IntKind.i64.wrap ((b0 : Int) + (r : Int)) = ((b0 + r : Nat) : Int) := by rw [IntKind.wrap_i64]; omega
          have x2 : IntKind.i64.wrap ((b0 : Int) + (q : Int)) = ((b0 + q : Nat) : Int) := by rw [IntKind.wrap_i64]; omega
          have hne : ¬ b0 + r = b0 + q := by omega
          have hne2 : ¬ b0 + q = b0 + r := by omega
          clear hc hq
          go_quiet (first | (go_at_call 35; refine Calls.quiet_of_same (less_quiet _ _ _)))
          obtain ⟨B2, hB2⟩ : ∃ B, Hid (ltInt (G (b0 + r)) (G (b0 + q)) = B) := ⟨_, rfl⟩
          rw [hB2.out]
          cases B2
          · have hE : Hid (siftDown ltInt hi b0 r dk = dk) := by
              show _ = _
              rw [hE1.out, ← hG.out, ← hG.out, hB2.out]
              rfl
            clear hE1
            go_wp2
            have h3 := hI.out.2.2
            rw [hE.out] at h3
            first | go_end0 | refine bodyPost_ret (results_none rfl _ _ _) rfl ?_
            exact ⟨rfl, by rw [← h3]; exact (HW.out.drewN _)⟩
          · have hE : Hid (siftDown ltInt hi b0 r dk = siftDown ltInt hi b0 q (swp dk (b0 + r) (b0 + q))) := by
              show _ = _
              rw [hE1.out, ← hG.out, ← hG.out, hB2.out]
              rfl
            clear hE1
            go_wp2
            go_region
            go_wp2
            go_roundw
            case rel =>
              refine ⟨q, swp dk (b0 + r) (b0 + q), rfl, by omega, hide ⟨by rw [size_swpI]; exact hI.out.1, ?_, by rw [← hE.out]; exact hI.out.2.2⟩⟩
              rw [hG.out, hG.out]
              exact (HW.out.drewN _).swap (b0 + r) (b0 + q) (by rw [hI.out.1]; omega) (by rw [hI.out.1]; omega)
            case measure => simp [intOf]; omega
        · obtain ⟨q, hqc, hq⟩ : ∃ q, q = c + 1 ∧ Hid (chld hi b0 r dk = q) := ⟨c + 1, rfl, by
            rw [hG.out, hG.out] at hB
            show _ = _
            unfold chld
            rw [hc.out, hB.out]
            simp [h2]
            have := hc.out
            omega⟩
          have hqi : q < hi := by omega
          have hrq : r < q := by omega
          have hqc2 := hide hqc
          clear hqc
          go_upto_region 5 with fail
          rw [show (c : Int) + 1 = (q : Int) by have := hqc2.out; omega]
          clear hB v1 v2 v3 h2i hqc2
          have hE1 : Hid (siftDown ltInt hi b0 r dk = if !ltInt dk[b0 + r]! dk[b0 + q]! then dk else siftDown ltInt hi b0 q (swp dk (b0 + r) (b0 + q))) := by
            show _ = _
            rw [sift_eq, if_neg (by have := hc.out; omega), hq.out]
          have hqn : b0 + q < n := by omega
          have hrn : b0 + r < n := by omega
          have x1 : IntKind.i64.wrap ((b0 : Int) + (r : Int)) = ((b0 + r : Nat) : Int) := by rw [IntKind.wrap_i64]; omega
          have x2 : IntKind.i64.wrap ((b0 : Int) + (q : Int)) = ((b0 + q : Nat) : Int) := by rw [IntKind.wrap_i64]; omega
          have hne : ¬ b0 + r = b0 + q := by omega
          have hne2 : ¬ b0 + q = b0 + r := by omega
          clear hc hq
          go_quiet (first | (go_at_call 35; refine Calls.quiet_of_same (less_quiet _ _ _)))
          obtain ⟨B2, hB2⟩ : ∃ B, Hid (ltInt (G (b0 + r)) (G (b0 + q)) = B) := ⟨_, rfl⟩
          rw [hB2.out]
          cases B2
          · have hE : Hid (siftDown ltInt hi b0 r dk = dk) := by
              show _ = _
              rw [hE1.out, ← hG.out, ← hG.out, hB2.out]
              rfl
            clear hE1
            go_wp2
            have h3 := hI.out.2.2
            rw [hE.out] at h3
            first | go_end0 | refine bodyPost_ret (results_none rfl _ _ _) rfl ?_
            exact ⟨rfl, by rw [← h3]; exact (HW.out.drewN _)⟩
          · have hE : Hid (siftDown ltInt hi b0 r dk = siftDown ltInt hi b0 q (swp dk (b0 + r) (b0 + q))) := by
              show _ = _
              rw [hE1.out, ← hG.out, ← hG.out, hB2.out]
              rfl
            clear hE1
            go_wp2
            go_region
            go_wp2
            go_roundw
            case rel =>
              refine ⟨q, swp dk (b0 + r) (b0 + q), rfl, by omega, hide ⟨by rw [size_swpI]; exact hI.out.1, ?_, by rw [← hE.out]; exact hI.out.2.2⟩⟩
              rw [hG.out, hG.out]
              exact (HW.out.drewN _).swap (b0 + r) (b0 + q) (by rw [hI.out.1]; omega) (by rw [hI.out.1]; omega)
            case measure => simp [intOf]; omega
      · have h2i : ¬ (c : Int) + 1 < (hi : Int) := by omega
        have v1 : IntKind.i64.wrap ((c : Int) + 1) = (c : Int) + 1 := by rw [IntKind.wrap_i64]; omega
        go_quiet (first | (go_at_call 35; refine Calls.quiet_of_same (less_quiet _ _ _)))
        have HW := hide (hI.out.2.1.drewN nq)
        have hcw2 : ∀ t, t < n → (wr.drewN nq).cell? ⟨g, t, none⟩ = some (.int .u64 (G t)) := hcw
        have hfw2 : ∀ t, t < n → (wr.drewN nq).frozen? ⟨g, t, none⟩ = false := hfw
        clear hcw hfw
        generalize wr.drewN nq = wq at HW hcw2 hfw2 ⊢
        obtain ⟨q, hqc, hq⟩ : ∃ q, q = c ∧ Hid (chld hi b0 r dk = q) := ⟨c, rfl, by
          show _ = _
          unfold chld
          rw [hc.out]
          simp [h2]⟩
        have hqi : q < hi := by omega
        have hrq : r < q := by omega
        rw [← hqc]
        clear v1 h2i hqc
        go_upto_region 5 with fail
        have hE1 : Hid (siftDown ltInt hi b0 r dk = if !ltInt dk[b0 + r]! dk[b0 + q]! then dk else siftDown ltInt hi b0 q (swp dk (b0 + r) (b0 + q))) := by
          show _ = _
          rw [sift_eq, if_neg (by have := hc.out; omega), hq.out]
        have hqn : b0 + q < n := by omega
        have hrn : b0 + r < n := by omega
        have x1 : IntKind.i64.wrap ((b0 : Int) + (r : Int)) = ((b0 + r : Nat) : Int) := by rw [IntKind.wrap_i64]; omega
        have x2 : IntKind.i64.wrap ((b0 : Int) + (q : Int)) = ((b0 + q : Nat) : Int) := by rw [IntKind.wrap_i64]; omega
        have hne : ¬ b0 + r = b0 + q := by omega
        have hne2 : ¬ b0 + q = b0 + r := by omega
        clear hc hq
        go_quiet (first | (go_at_call 35; refine Calls.quiet_of_same (less_quiet _ _ _)))
        obtain ⟨B2, hB2⟩ : ∃ B, Hid (ltInt (G (b0 + r)) (G (b0 + q)) = B) := ⟨_, rfl⟩
        rw [hB2.out]
        cases B2
        · have hE : Hid (siftDown ltInt hi b0 r dk = dk) := by
            show _ = _
            rw [hE1.out, ← hG.out, ← hG.out, hB2.out]
            rfl
          clear hE1
          go_wp2
          have h3 := hI.out.2.2
          rw [hE.out] at h3
          first | go_end0 | refine bodyPost_ret (results_none rfl _ _ _) rfl ?_
          exact ⟨rfl, by rw [← h3]; exact (HW.out.drewN _)⟩
        · have hE : Hid (siftDown ltInt hi b0 r dk = siftDown ltInt hi b0 q (swp dk (b0 + r) (b0 + q))) := by
            show _ = _
            rw [hE1.out, ← hG.out, ← hG.out, hB2.out]
            rfl
          clear hE1
          go_wp2
          go_region
          go_wp2
          go_roundw
          case rel =>
            refine ⟨q, swp dk (b0 + r) (b0 + q), rfl, by omega, hide ⟨by rw [size_swpI]; exact hI.out.1, ?_, by rw [← hE.out]; exact hI.out.2.2⟩⟩
            rw [hG.out, hG.out]
            exact (HW.out.drewN _).swap (b0 + r) (b0 + q) (by rw [hI.out.1]; omega) (by rw [hI.out.1]; omega)
          case measure => simp [intOf]; omega
    · have h1i : (hi : Int) ≤ 2 * (r : Int) + 1 := by omega
      go_wp2
      go_end0
      have h3 := hI.out.2.2
      rw [sift_eq, if_pos (by omega)] at h3
      exact ⟨rfl, by rw [← h3]; exact hI.out.2.1⟩

theorem chld_gt (hi b0 r : Nat) (d : Array Int) : r < chld hi b0 r d := by unfold chld; split <;> omega
theorem sift_size (hi b0 : Nat) : ∀ m r (d : Array Int), hi - r ≤ m → (siftDown ltInt hi b0 r d).size = d.size := by
  intro m
  induction m with
  | zero =>
    intro r d h
    rw [sift_eq, if_pos (by omega)]
  | succ m ih =>
    intro r d h
    rw [sift_eq]
    by_cases h1 : 2 * r + 1 ≥ hi
    · rw [if_pos h1]
    · rw [if_neg h1]
      split
      · rfl
      · have := chld_gt hi b0 r d
        rw [ih _ _ (by omega), size_swpI]
set_option maxRecDepth 100000 in
set_option maxHeartbeats 4000000 in
theorem heap_any (base g cap a b : Nat) (d : Array Int) (w0 w : World) (hR : SRow w0 base g cap d w) (hab : a < b) (hb : b ≤ d.size) (hsz : d.size < 1152921504606846976) :
    Calls Tryd.prog 40 #[.slice (some ⟨g, 0, none⟩) d.size cap, .int .i64 a, .int .i64 b] w fun e w' =>
      e = .returned (.tuple #[]) ∧ SRow w0 base g cap (heapSort ltInt d a b) w' := by
  obtain ⟨n, hn⟩ : ∃ n, d.size = n := ⟨_, rfl⟩
  obtain ⟨L, hL⟩ : ∃ L, Hid (b - a = L) := ⟨_, rfl⟩
  have HR := hide hR
  have HN := hide hn
  rw [hn] at hb hsz ⊢
  clear hR hn
  have hba : (b : Int) - (a : Int) = (L : Int) := by have := hL.out; omega
  have hL1 : 1 ≤ L := by have := hL.out; omega
  have hLn : a + L ≤ n := by have := hL.out; omega
  go_enter Tryd.func40, Tryd.ntmps40
  go_upto_region 3 with fail
  clear hba
  go_wp2
  go_loopw [9] (fun vi wr => ∃ (k : Nat) (dk : Array Int), vi = .int .i64 ((k : Int) - 1) ∧ k ≤ (L - 1) / 2 + 1 ∧ Hid (dk.size = n ∧ SRow w0 base g cap dk wr ∧ heapBuild ltInt L a k dk = heapBuild ltInt L a ((L - 1) / 2 + 1) d)) (fun vi _ => (intOf vi + 1).toNat)
  case atStart => exact ⟨(L - 1) / 2 + 1, d, by congr 1; omega, Nat.le_refl _, hide ⟨HN.out, HR.out, rfl⟩⟩
  case round =>
    clear HR
    obtain ⟨k, dk, rfl, hk, hI⟩ := hrel
    cases k with
    | zero =>
      have hB0 := hI.out.2.2
      rw [heapBuild] at hB0
      rw [show (((0 : Nat) : Int) - 1) = -1 from rfl]
      go_wp2
      go_loopw [10] (fun vi w2 => ∃ (k : Nat) (dj : Array Int), vi = .int .i64 ((k : Int) - 1) ∧ k ≤ L ∧ Hid (dj.size = n ∧ SRow w0 base g cap dj w2 ∧ heapPop ltInt a k dj = heapPop ltInt a L dk)) (fun vi _ => (intOf vi + 1).toNat)
      case atStart => exact ⟨L, dk, by first | rfl | (congr 1; omega), Nat.le_refl _, hide ⟨hI.out.1, hI.out.2.1, rfl⟩⟩
      case round =>
        obtain ⟨k, dj, rfl, hk2, hJ⟩ := hrel
        cases k with
        | zero =>
          go_wp2
          go_end0
          refine ⟨rfl, ?_⟩
          have h3 := hJ.out.2.2
          rw [heapPop] at h3
          rw [heapSort, hL.out, ← hB0, ← h3]
          exact hJ.out.2.1
        | succ k =>
          have hke : (((k + 1 : Nat) : Int) - 1) = (k : Int) := by omega
          rw [hke]
          obtain ⟨G, hG⟩ : ∃ G : Nat → Int, Hid (∀ t, G t = dj[t]!) := ⟨fun t => dj[t]!, fun _ => rfl⟩
          have hcw : ∀ t, t < n → wr.cell? ⟨g, t, none⟩ = some (.int .u64 (G t)) := fun t ht => by
            rw [hG.out]; exact hJ.out.2.1.cell t (by rw [hJ.out.1]; exact ht)
          have hfw : ∀ t, t < n → wr.frozen? ⟨g, t, none⟩ = false := fun t ht => hJ.out.2.1.frozen t
          have ha1 : a < n := by omega
          have hak : a + k < n := by omega
          have x1 : IntKind.i64.wrap ((a : Int) + (k : Int)) = ((a + k : Nat) : Int) := by rw [IntKind.wrap_i64]; omega
          have HE : Hid ((swp dj a (a + k)).size = n ∧ SRow w0 base g cap (swp dj a (a + k)) ((wr.setCell ⟨g, a, none⟩ (.int .u64 (G (a + k)))).setCell ⟨g, a + k, none⟩ (.int .u64 (G a))).drew) := by
            rw [hG.out, hG.out]
            exact ⟨by rw [size_swpI]; exact hJ.out.1, (hJ.out.2.1.swap a (a + k) (by rw [hJ.out.1]; omega) (by rw [hJ.out.1]; omega)).drew⟩
          have hpop : Hid (heapPop ltInt a (k + 1) dj = heapPop ltInt a k (siftDown ltInt k a 0 (swp dj a (a + k)))) := rfl
          have HS := hide (fun w3 (h3 : SRow w0 base g cap (swp dj a (a + k)) w3) => sift_any base g cap a k 0 (swp dj a (a + k)) w0 w3 h3 (by rw [HE.out.1]; omega) (Nat.zero_le _) (by rw [HE.out.1]; exact hsz))
          rw [HE.out.1] at HS
          clear hke
          go_upto_region 10 with fail
          go_cut [] from 33 to 50 (fun wx => Hid (SRow w0 base g cap (swp dj a (a + k)) wx))
          case first =>
            by_cases hk0 : k = 0
            · subst hk0
              go_region
              go_wp2
              go_meet
              exact HE.out.2
            · have hne : ¬ a = a + k := by omega
              have hne2 : ¬ a + k = a := by omega
              go_region
              go_wp2
              go_meet
              exact HE.out.2
          case rest =>
            clear hcw hfw
            go_wp2_with fail
            refine (HS.out wc hcut.out).mono ?_
            rintro e w3 ⟨rfl, hR3⟩
            have HR3 := hide hR3
            clear hR3
            go_wp2
            go_roundw
            case rel => exact ⟨k, _, rfl, by omega, hide ⟨by rw [sift_size _ _ _ _ _ (Nat.le_refl _)]; exact HE.out.1, HR3.out, by rw [← hJ.out.2.2, hpop.out]⟩⟩
            case measure => simp [intOf]
    | succ k =>
      have hke : (((k + 1 : Nat) : Int) - 1) = (k : Int) := by omega
      rw [hke]
      have HS := hide (sift_any base g cap a L k dk w0 wr hI.out.2.1 (by rw [hI.out.1]; omega) (by omega) (by rw [hI.out.1]; exact hsz))
      rw [hI.out.1] at HS
      clear hke
      go_wp2_with (go_at_call 54; refine HS.out.mono ?_; rintro e w3 ⟨rfl, hR3⟩)
      go_roundw
      case rel => exact ⟨k, _, rfl, by omega, hide ⟨by rw [sift_size _ _ _ _ _ (Nat.le_refl _)]; exact hI.out.1, hR3, hI.out.2.2⟩⟩
      case measure => simp [intOf]
end Go.Proofs.YtphahkjjmomjcaaDoor

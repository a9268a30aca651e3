/- Contracts of weight.Best, of each function that is handed to it; the document's examples of layer 12 ('awake'). -/
import Derived.Test.YthdohlcaocajdaaRows

import Derived.WalkKit

import Derived.ProofKit

import Derived.Test.YthdohlcaocajdaaOctMath

namespace Go.Proofs.Ythdohlcaocajdaa

open Go.ChangeShapes Go.WideShapes Go.ChangeAt Go.RowKit

set_option linter.unusedVariables false

/-- one more block: the best one, and what it has -/
def bStep (f : Int → Int) (x : Int × Int) (r : Int) : Int × Int := if x.2 < f r ∨ f r = x.2 ∧ x.1 < r then (r, f r) else x
def bRun (f : Int → Int) (rs : List Int) : Int × Int := rs.foldl (bStep f) (0, 0)
theorem bRun_take (f : Int → Int) (rs : List Int) (k : Nat) (h : k < rs.length) : bRun f (rs.take (k + 1)) = bStep f (bRun f (rs.take k)) (rs.getD k 0) := by
  rw [List.take_succ_eq_append_getElem h, bRun, List.foldl_append, List.getD_eq_getElem?_getD, List.getElem?_eq_getElem h]
  rfl

set_option maxRecDepth 100000 in
set_option maxHeartbeats 2000000 in
theorem best_a (f : Int → Int) (rs : List Int) (a : Option Addr) (l c : Nat)  (w : World) (hR : RowIn .u64 w a l c rs)
    (hf : ∀ r w', r ∈ rs → Below w.heap.size w w' → Calls Try.prog 36 #[.int .u64 r] w' fun e w2 => e = .returned (.int .u64 (f r)) ∧ Below w'.heap.size w' w2) :
    Calls Try.prog 20 #[.func (.func 36) #[] #[], .slice a l c] w fun e w' => e = .returned (.tuple #[.int .u64 (bRun f rs).1, .bool (decide (0 < l))]) ∧ Below w.heap.size w w' := by
  have HR := hide hR
  have HF := hide hf
  have hl := hide hR.len
  have hc := hR.cap
  unfold maxLen at hc
  clear hR hf
  go_enter Try.func20, Try.ntmps20
  go_wp2
  go_loopw [6, 7, 13] (fun x y i wr => ∃ k : Nat, k ≤ l ∧ i = .int .i64 (k : Int) ∧ Hid (Below w.heap.size w wr) ∧ ∃ b m, x = .int .u64 b ∧ y = .int .u64 m ∧ Hid (bRun f (rs.take k) = (b, m))) (fun _ _ i _ => l - (intOf i).toNat)
  case atStart => exact ⟨0, Nat.zero_le _, rfl, hide (Below.refl _ _), 0, 0, rfl, rfl, hide rfl⟩
  case round =>
    obtain ⟨k, hk, rfl, HB, b, m, rfl, rfl, hI⟩ := hrel
    by_cases hlt : k < l
    · obtain ⟨g, off, rfl, hgs, hcn⟩ := (HR.out.below HB.out).cell k hlt
      have ht := bRun_take f rs k (by have := hl.out; omega)
      have hin : Hid (rs.getD k 0 ∈ rs) := hide (by rw [List.getD_eq_getElem?_getD, List.getElem?_eq_getElem (show k < rs.length by have := hl.out; omega)]; exact List.getElem_mem _)
      obtain ⟨r, hr⟩ : ∃ r, Hid (rs.getD k 0 = r) := ⟨_, rfl⟩
      rw [hr.out] at hcn ht hin
      have HC := hide (HF.out r wr hin.out HB.out)
      obtain ⟨h, hh⟩ : ∃ h, Hid (f r = h) := ⟨_, rfl⟩
      rw [hh.out] at HC
      rw [hI.out] at ht
      unfold bStep at ht
      simp only [hh.out] at ht
      have HT := hide ht
      have hkl : (k : Int) < (l : Int) := by omega
      clear ht hin
      by_cases h1 : m < h
      · rw [if_pos (.inl h1)] at HT
        go_wp2_with (go_at_call 36; refine HC.out.mono ?_; rintro e w' ⟨rfl, hb⟩; have HB2 := hide (HB.out.trans (hb.mono HB.out.size)); clear hb)
        go_roundw
        case rel => exact ⟨k + 1, by omega, by go_num, HB2, r, h, rfl, rfl, HT⟩
        case measure => simp [intOf]; omega
      · by_cases h2 : h = m
        · subst h2
          by_cases h3 : b < r
          · rw [if_pos (.inr ⟨rfl, h3⟩)] at HT
            go_wp2_with (go_at_call 36; refine HC.out.mono ?_; rintro e w' ⟨rfl, hb⟩; have HB2 := hide (HB.out.trans (hb.mono HB.out.size)); clear hb)
            go_roundw
            case rel => exact ⟨k + 1, by omega, by go_num, HB2, r, h, rfl, rfl, HT⟩
            case measure => simp [intOf]; omega
          · rw [if_neg (fun e => e.elim h1 (fun e => h3 e.2))] at HT
            go_wp2_with (go_at_call 36; refine HC.out.mono ?_; rintro e w' ⟨rfl, hb⟩; have HB2 := hide (HB.out.trans (hb.mono HB.out.size)); clear hb)
            go_roundw
            case rel => exact ⟨k + 1, by omega, by go_num, HB2, b, h, rfl, rfl, HT⟩
            case measure => simp [intOf]; omega
        · rw [if_neg (fun e => e.elim h1 (fun e => h2 e.1))] at HT
          have h4 : (h == m) = false := by simpa using h2
          clear h2
          go_wp2_with (go_at_call 36; refine HC.out.mono ?_; rintro e w' ⟨rfl, hb⟩; have HB2 := hide (HB.out.trans (hb.mono HB.out.size)); clear hb)
          go_roundw
          case rel => exact ⟨k + 1, by omega, by go_num, HB2, b, m, rfl, rfl, HT⟩
          case measure => simp [intOf]; omega
    · have : k = l := by omega
      subst this
      have hE : Hid ((bRun f rs).1 = b) := hide (by rw [List.take_of_length_le (by rw [hl.out]; omega)] at hI; rw [hI.out])
      clear hI
      go_wp2
      go_ret2
      exact ⟨by rw [hE.out]; rfl, HB.out⟩

set_option maxRecDepth 100000 in
set_option maxHeartbeats 2000000 in
theorem best_b (f : Int → Int) (rs : List Int) (a : Option Addr) (l c : Nat)  (w : World) (hR : RowIn .u64 w a l c rs)
    (hf : ∀ r w', r ∈ rs → Below w.heap.size w w' → Calls Try.prog 37 #[.int .u64 r] w' fun e w2 => e = .returned (.int .u64 (f r)) ∧ Below w'.heap.size w' w2) :
    Calls Try.prog 20 #[.func (.func 37) #[] #[], .slice a l c] w fun e w' => e = .returned (.tuple #[.int .u64 (bRun f rs).1, .bool (decide (0 < l))]) ∧ Below w.heap.size w w' := by
  have HR := hide hR
  have HF := hide hf
  have hl := hide hR.len
  have hc := hR.cap
  unfold maxLen at hc
  clear hR hf
  go_enter Try.func20, Try.ntmps20
  go_wp2
  go_loopw [6, 7, 13] (fun x y i wr => ∃ k : Nat, k ≤ l ∧ i = .int .i64 (k : Int) ∧ Hid (Below w.heap.size w wr) ∧ ∃ b m, x = .int .u64 b ∧ y = .int .u64 m ∧ Hid (bRun f (rs.take k) = (b, m))) (fun _ _ i _ => l - (intOf i).toNat)
  case atStart => exact ⟨0, Nat.zero_le _, rfl, hide (Below.refl _ _), 0, 0, rfl, rfl, hide rfl⟩
  case round =>
    obtain ⟨k, hk, rfl, HB, b, m, rfl, rfl, hI⟩ := hrel
    by_cases hlt : k < l
    · obtain ⟨g, off, rfl, hgs, hcn⟩ := (HR.out.below HB.out).cell k hlt
      have ht := bRun_take f rs k (by have := hl.out; omega)
      have hin : Hid (rs.getD k 0 ∈ rs) := hide (by rw [List.getD_eq_getElem?_getD, List.getElem?_eq_getElem (show k < rs.length by have := hl.out; omega)]; exact List.getElem_mem _)
      obtain ⟨r, hr⟩ : ∃ r, Hid (rs.getD k 0 = r) := ⟨_, rfl⟩
      rw [hr.out] at hcn ht hin
      have HC := hide (HF.out r wr hin.out HB.out)
      obtain ⟨h, hh⟩ : ∃ h, Hid (f r = h) := ⟨_, rfl⟩
      rw [hh.out] at HC
      rw [hI.out] at ht
      unfold bStep at ht
      simp only [hh.out] at ht
      have HT := hide ht
      have hkl : (k : Int) < (l : Int) := by omega
      clear ht hin
      by_cases h1 : m < h
      · rw [if_pos (.inl h1)] at HT
        go_wp2_with (go_at_call 37; refine HC.out.mono ?_; rintro e w' ⟨rfl, hb⟩; have HB2 := hide (HB.out.trans (hb.mono HB.out.size)); clear hb)
        go_roundw
        case rel => exact ⟨k + 1, by omega, by go_num, HB2, r, h, rfl, rfl, HT⟩
        case measure => simp [intOf]; omega
      · by_cases h2 : h = m
        · subst h2
          by_cases h3 : b < r
          · rw [if_pos (.inr ⟨rfl, h3⟩)] at HT
            go_wp2_with (go_at_call 37; refine HC.out.mono ?_; rintro e w' ⟨rfl, hb⟩; have HB2 := hide (HB.out.trans (hb.mono HB.out.size)); clear hb)
            go_roundw
            case rel => exact ⟨k + 1, by omega, by go_num, HB2, r, h, rfl, rfl, HT⟩
            case measure => simp [intOf]; omega
          · rw [if_neg (fun e => e.elim h1 (fun e => h3 e.2))] at HT
            go_wp2_with (go_at_call 37; refine HC.out.mono ?_; rintro e w' ⟨rfl, hb⟩; have HB2 := hide (HB.out.trans (hb.mono HB.out.size)); clear hb)
            go_roundw
            case rel => exact ⟨k + 1, by omega, by go_num, HB2, b, h, rfl, rfl, HT⟩
            case measure => simp [intOf]; omega
        · rw [if_neg (fun e => e.elim h1 (fun e => h2 e.1))] at HT
          have h4 : (h == m) = false := by simpa using h2
          clear h2
          go_wp2_with (go_at_call 37; refine HC.out.mono ?_; rintro e w' ⟨rfl, hb⟩; have HB2 := hide (HB.out.trans (hb.mono HB.out.size)); clear hb)
          go_roundw
          case rel => exact ⟨k + 1, by omega, by go_num, HB2, b, m, rfl, rfl, HT⟩
          case measure => simp [intOf]; omega
    · have : k = l := by omega
      subst this
      have hE : Hid ((bRun f rs).1 = b) := hide (by rw [List.take_of_length_le (by rw [hl.out]; omega)] at hI; rw [hI.out])
      clear hI
      go_wp2
      go_ret2
      exact ⟨by rw [hE.out]; rfl, HB.out⟩

set_option maxRecDepth 100000 in
set_option maxHeartbeats 400000 in
theorem seven1 (r : Int) (w : World) : Calls Try.prog 36 #[.int .u64 r] w fun e w' => e = .returned (.int .u64 7) ∧ w' = w := by
  go_enter Try.func36, Try.ntmps36
  go_wp2
  go_ret
  exact ⟨rfl, rfl⟩
set_option maxRecDepth 100000 in
set_option maxHeartbeats 400000 in
theorem awake_any (w : World) : Calls Try.prog 10 #[] w fun e w' => e = .returned (.bool true) ∧ Below w.heap.size w w' := by
  have hR := RowIn.lit .u64 w w.heap.size #[.int .u64 3, .int .u64 5, .int .u64 4] 37 (0, 0) 3 3 [3, 5, 4] rfl rfl rfl (by simp [maxLen])
  have HR := hide hR
  have HB := hide ((Below.refl w.heap.size w).alloc (Nat.le_refl _) (.cells #[.int .u64 3, .int .u64 5, .int .u64 4] 37))
  clear hR
  have H1 := hide (best_a (fun _ => 7) [3, 5, 4] _ 3 3 _ HR.out (fun r w' _ _ => (seven1 r w').mono fun e w2 ⟨h1, h2⟩ => ⟨h1, by rw [h2]; exact Below.refl _ _⟩))
  have H2 : Hid (∀ w', _) := hide fun w' => best_b (fun _ => 7) [] none 0 0 w' (RowIn.ofNil _ _) (fun r w2 h _ => by cases h)
  rw [show (bRun (fun _ => 7) [3, 5, 4]).1 = 5 from by decide, show decide (0 < 3) = true from rfl] at H1
  simp only [show (bRun (fun _ => 7) []).1 = 0 from rfl, show decide (0 < 0) = false from rfl] at H2
  clear HR
  go_enter Try.func10, Try.ntmps10
  go_wp2_with fail
  refine H1.out.mono ?_
  rintro e w1 ⟨rfl, hb⟩
  have HB1 := hide (HB.out.trans (hb.mono HB.out.size))
  clear H1 hb HB
  go_wp2_with fail
  refine (H2.out w1).mono ?_
  rintro e w2 ⟨rfl, hb⟩
  have HB2 := hide (HB1.out.trans (hb.mono HB1.out.size))
  clear H2 hb HB1
  go_wp2
  go_ret
  exact ⟨rfl, HB2.out⟩
end Go.Proofs.Ythdohlcaocajdaa

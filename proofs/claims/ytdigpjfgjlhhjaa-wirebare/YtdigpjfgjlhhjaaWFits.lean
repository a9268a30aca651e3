/- Contract of psephoslaw04's fits: is a vote one that has bytes? -/
import Derived.Test.YtdigpjfgjlhhjaaWVote

import Derived.Deep.CutRange

namespace Go.Proofs.Ytdigpjfgjlhhjaa

open Go.ChangeShapes Go.WideShapes Go.ChangeAt Go.RowKit

set_option linter.unusedVariables false

def inSlot (x : Int) : Bool := decide (0 ≤ x ∧ x ≤ 1099511627776)
def inWho (x : Int) : Bool := decide (0 ≤ x ∧ x < 4096)
/-- what is asked of a vote but for who votes -/
def fits0 (v : Vt) : Bool := decide ((0 ≤ v.slot ∧ v.slot ≤ 1099511627776) ∧ (0 ≤ v.sE ∧ v.sE ≤ 1099511627776) ∧ (0 ≤ v.tE ∧ v.tE ≤ 1099511627776) ∧ v.who.length ≤ 4096)
/-- has a vote bytes? -/
def fitsB (v : Vt) : Bool := fits0 v && v.who.all inWho
theorem fitsB_len {v : Vt} (h : fitsB v = true) : v.who.length ≤ 4096 := by
  simp only [fitsB, fits0, Bool.and_eq_true, decide_eq_true_eq] at h
  exact h.1.2.2.2
theorem all_take (l : List Int) (p : Int → Bool) (k : Nat) (h : k < l.length) : (l.take (k + 1)).all p = ((l.take k).all p && p (l.getD k 0)) := by
  rw [List.take_succ_eq_append_getElem h, List.all_append, List.getD_eq_getElem?_getD, List.getElem?_eq_getElem h]
  simp

set_option maxHeartbeats 1000000 in
theorem lfits_any (v : Vt) (cs : List Value) (w : World) (h : VoteC w cs v) :
    Calls Try.prog 14 #[.agg cs.toArray] w fun e w' => e = .returned (.bool (fitsB v)) ∧ Below w.heap.size w w' := by
  obtain ⟨hw, ao, l, c, rfl, hr⟩ := h
  have hlen := hr.len
  have hcap := hr.cap
  have HR := hide (hr.below (below_alloc w (votC v ao l c)))
  unfold maxLen at hcap
  clear hw hr
  go_enter Try.func14, Try.ntmps14
  go_upto_region 1 with fail
  go_cut [3] from 6 to 43 (fun x wx => x = Value.bool (fits0 v) ∧ wx = w.alloc (votC v ao l c))
  case first =>
    have hf : Hid (∀ b, b = decide ((0 ≤ v.slot ∧ v.slot ≤ 1099511627776) ∧ (0 ≤ v.sE ∧ v.sE ≤ 1099511627776) ∧ (0 ≤ v.tE ∧ v.tE ≤ 1099511627776) ∧ v.who.length ≤ 4096) → Value.bool b = Value.bool (fits0 v)) := fun b h => by rw [h]; rfl
    by_cases h1 : 0 ≤ v.slot
    case neg => go_wp2; go_meet; exact ⟨hf.out _ (decide_eq_false (by omega)).symm, rfl⟩
    by_cases h2 : v.slot ≤ 1099511627776
    case neg => go_wp2; go_meet; exact ⟨hf.out _ (decide_eq_false (by omega)).symm, rfl⟩
    by_cases h3 : 0 ≤ v.sE
    case neg => go_wp2; go_meet; exact ⟨hf.out _ (decide_eq_false (by omega)).symm, rfl⟩
    by_cases h4 : v.sE ≤ 1099511627776
    case neg => go_wp2; go_meet; exact ⟨hf.out _ (decide_eq_false (by omega)).symm, rfl⟩
    by_cases h5 : 0 ≤ v.tE
    case neg => go_wp2; go_meet; exact ⟨hf.out _ (decide_eq_false (by omega)).symm, rfl⟩
    by_cases h6 : v.tE ≤ 1099511627776
    case neg => go_wp2; go_meet; exact ⟨hf.out _ (decide_eq_false (by omega)).symm, rfl⟩
    by_cases h7 : (l : Int) ≤ 4096
    case neg => go_wp2; go_meet; exact ⟨hf.out _ (decide_eq_false (by omega)).symm, rfl⟩
    go_wp2
    go_meet
    exact ⟨hf.out _ (decide_eq_true (by omega)).symm, rfl⟩
  case rest =>
    obtain ⟨rfl, rfl⟩ := hcut
    obtain ⟨ok, hok⟩ : ∃ x, Hid (fits0 v = x) := ⟨_, rfl⟩
    rw [hok.out]
    go_wp2
    go_loop [3, 47] (fun x i => ∃ k : Nat, k ≤ l ∧ i = .int .i64 k ∧ x = .bool (ok && (v.who.take k).all inWho)) (fun x i => l - (intOf i).toNat)
    case atStart => exact ⟨0, Nat.zero_le _, rfl, by simp⟩
    case round =>
      obtain ⟨k, hk, rfl, rfl⟩ := hrel
      by_cases hlt : k < l
      · obtain ⟨b, off, rfl, hbs, hcn⟩ := HR.out.cell k hlt
        have ha := all_take v.who inWho k (by omega)
        obtain ⟨x, hx⟩ : ∃ x, Hid (v.who.getD k 0 = x) := ⟨_, rfl⟩
        rw [hx.out] at hcn ha
        have HA := hide ha
        clear ha
        obtain ⟨q, hq⟩ : ∃ q, Hid ((ok && (v.who.take k).all inWho) = q) := ⟨_, rfl⟩
        rw [hq.out]
        have hn : Hid ((ok && (v.who.take (k + 1)).all inWho) = (q && inWho x)) := by
          have h : (ok && (v.who.take (k + 1)).all inWho) = (q && inWho x) := by rw [HA.out, ← hq.out, Bool.and_assoc]
          exact h
        cases q
        · go_wp2
          go_round
          case rel => exact ⟨k + 1, by omega, by go_num, by rw [hn.out]; rfl⟩
          case measure => simp [intOf]; omega
        · by_cases g1 : 0 ≤ x
          · by_cases g2 : x < 4096
            · go_wp2
              go_round
              case rel => exact ⟨k + 1, by omega, by go_num, by rw [hn.out]; simp [inWho, g1, g2]⟩
              case measure => simp [intOf]; omega
            · go_wp2
              go_round
              case rel => exact ⟨k + 1, by omega, by go_num, by rw [hn.out]; simp [inWho, g2]⟩
              case measure => simp [intOf]; omega
          · go_wp2
            go_round
            case rel => exact ⟨k + 1, by omega, by go_num, by rw [hn.out]; simp [inWho, g1]⟩
            case measure => simp [intOf]; omega
      · have : k = l := by omega
        subst this
        rw [List.take_of_length_le (by omega)]
        go_wp2
        go_ret
        exact ⟨ret_bool (by unfold fitsB; rw [hok.out]), below_alloc _ _⟩
end Go.Proofs.Ytdigpjfgjlhhjaa

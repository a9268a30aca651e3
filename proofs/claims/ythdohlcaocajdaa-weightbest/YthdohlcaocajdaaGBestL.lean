/- Contract of weight.Best of the law's own function. -/
import Derived.Test.YthdohlcaocajdaaGBest

import Derived.Test.YthdohlcaocajdaaObjs

import Derived.Deep.QuietTactic

import Derived.BigQuiet

import Derived.Deep.CutRange

namespace Go.Proofs.Ythdohlcaocajdaa

open Go.ChangeShapes Go.WideShapes Go.ChangeAt Go.RowKit

set_option linter.unusedVariables false

set_option maxRecDepth 100000 in
set_option maxHeartbeats 2000000 in
theorem best_l (f : Int → Int) (rs : List Int) (a : Option Addr) (l c : Nat) (vb : Nat) (w : World) (hR : RowIn .u64 w a l c rs)
    (hf : ∀ r w', r ∈ rs → Below w.heap.size w w' → Calls Try.prog 19 #[.int .u64 r, .pointer (some ⟨vb, 0, none⟩)] w' fun e w2 => e = .returned (.int .u64 (f r)) ∧ Below w'.heap.size w' w2) :
    Calls Try.prog 20 #[.func (.func 19) #[] #[.pointer (some ⟨vb, 0, none⟩)], .slice a l c] w fun e w' => e = .returned (.tuple #[.int .u64 (bRun f rs).1, .bool (decide (0 < l))]) ∧ Below w.heap.size w w' := by
  have HR := hide hR
  have HF := hide hf
  have hl := hide hR.len
  have hc := hR.cap
  unfold maxLen at hc
  clear hR hf
  go_enter Try.func20, Try.ntmps20
  go_wp2
  go_loopw [6, 7, 13] (fun x y i wr => ∃ k : Nat, k ≤ l ∧ i = .int .i64 (k : Int) ∧ Hid (Below w.heap.size w wr) ∧ ∃ b m, x = .int .u64 b ∧ y = .int .u64 m ∧ Hid (bRun f (rs.take k) = (b, m))) (fun _ _ i _ => l - (intOf i).toNat)
  case atStart => exact ⟨0, Nat.zero_le _, rfl, hide (Below.refl _ _), 0, 0, rfl, rfl, hide rfl⟩
  case round =>
    obtain ⟨k, hk, rfl, HB, b, m, rfl, rfl, hI⟩ := hrel
    by_cases hlt : k < l
    · obtain ⟨g, off, rfl, hgs, hcn⟩ := (HR.out.below HB.out).cell k hlt
      have ht := bRun_take f rs k (by have := hl.out; omega)
      have hin : Hid (rs.getD k 0 ∈ rs) := hide (by rw [List.getD_eq_getElem?_getD, List.getElem?_eq_getElem (show k < rs.length by have := hl.out; omega)]; exact List.getElem_mem _)
      obtain ⟨r, hr⟩ : ∃ r, Hid (rs.getD k 0 = r) := ⟨_, rfl⟩
      rw [hr.out] at hcn ht hin
      have HC := hide (HF.out r wr hin.out HB.out)
      obtain ⟨h, hh⟩ : ∃ h, Hid (f r = h) := ⟨_, rfl⟩
      rw [hh.out] at HC
      rw [hI.out] at ht
      unfold bStep at ht
      simp only [hh.out] at ht
      have HT := hide ht
      have hkl : (k : Int) < (l : Int) := by omega
      clear ht hin
      by_cases h1 : m < h
      · rw [if_pos (.inl h1)] at HT
        go_wp2_with (go_at_call 19; refine HC.out.mono ?_; rintro e w' ⟨rfl, hb⟩; have HB2 := hide (HB.out.trans (hb.mono HB.out.size)); clear hb)
        go_roundw
        case rel => exact ⟨k + 1, by omega, by go_num, HB2, r, h, rfl, rfl, HT⟩
        case measure => simp [intOf]; omega
      · by_cases h2 : h = m
        · subst h2
          by_cases h3 : b < r
          · rw [if_pos (.inr ⟨rfl, h3⟩)] at HT
            go_wp2_with (go_at_call 19; refine HC.out.mono ?_; rintro e w' ⟨rfl, hb⟩; have HB2 := hide (HB.out.trans (hb.mono HB.out.size)); clear hb)
            go_roundw
            case rel => exact ⟨k + 1, by omega, by go_num, HB2, r, h, rfl, rfl, HT⟩
            case measure => simp [intOf]; omega
          · rw [if_neg (fun e => e.elim h1 (fun e => h3 e.2))] at HT
            go_wp2_with (go_at_call 19; refine HC.out.mono ?_; rintro e w' ⟨rfl, hb⟩; have HB2 := hide (HB.out.trans (hb.mono HB.out.size)); clear hb)
            go_roundw
            case rel => exact ⟨k + 1, by omega, by go_num, HB2, b, h, rfl, rfl, HT⟩
            case measure => simp [intOf]; omega
        · rw [if_neg (fun e => e.elim h1 (fun e => h2 e.1))] at HT
          have h4 : (h == m) = false := by simpa using h2
          clear h2
          go_wp2_with (go_at_call 19; refine HC.out.mono ?_; rintro e w' ⟨rfl, hb⟩; have HB2 := hide (HB.out.trans (hb.mono HB.out.size)); clear hb)
          go_roundw
          case rel => exact ⟨k + 1, by omega, by go_num, HB2, b, m, rfl, rfl, HT⟩
          case measure => simp [intOf]; omega
    · have : k = l := by omega
      subst this
      have hE : Hid ((bRun f rs).1 = b) := hide (by rw [List.take_of_length_le (by rw [hl.out]; omega)] at hI; rw [hI.out])
      clear hI
      go_wp2
      go_ret2
      exact ⟨by rw [hE.out]; rfl, HB.out⟩

theorem wf_u8b {a : Int} (h : (Lit.int .u8 a).wf = true) : 0 ≤ a ∧ a ≤ 255 := by
  simpa [Lit.wf, IntKind.min, IntKind.max, IntKind.signed, IntKind.bits] using h
def bGood (f : Int → Int) (seen : List Int) (x : Int × Int) : Prop := (seen = [] ∧ x = (0, 0)) ∨ (x.1 ∈ seen ∧ x.2 = f x.1 ∧ ∀ r ∈ seen, ¬ x.2 < f r ∧ ¬ (f r = x.2 ∧ x.1 < r))
theorem bGood.step {f : Int → Int} {seen : List Int} {x : Int × Int} (h : bGood f seen x) (r : Int) (h0 : 0 ≤ r ∧ 0 ≤ f r) : bGood f (seen ++ [r]) (bStep f x r) := by
  right
  unfold bStep
  by_cases hc : x.2 < f r ∨ f r = x.2 ∧ x.1 < r
  · rw [if_pos hc]
    refine ⟨by simp, rfl, fun q hq => ?_⟩
    show ¬ f r < f q ∧ ¬ (f q = f r ∧ r < q)
    rcases List.mem_append.1 hq with hq | hq
    · rcases h with ⟨h1, _⟩ | ⟨_, _, h3⟩
      · rw [h1] at hq; cases hq
      · have := h3 q hq
        omega
    · have : q = r := by simpa using hq
      subst this
      omega
  · rw [if_neg hc]
    rcases h with ⟨h1, h2⟩ | ⟨h1, h2, h3⟩
    · subst h2
      simp only at hc
      have e1 : r = 0 := by omega
      have e2 : f r = 0 := by omega
      subst e1
      refine ⟨by simp, e2.symm, fun q hq => ?_⟩
      rw [h1] at hq
      have : q = 0 := by simpa using hq
      subst this
      simp only
      omega
    · refine ⟨by simp [h1], h2, fun q hq => ?_⟩
      rcases List.mem_append.1 hq with hq | hq
      · exact h3 q hq
      · have : q = r := by simpa using hq
        subst this
        omega
theorem bRun_good (f : Int → Int) (rs : List Int) (h : ∀ r ∈ rs, 0 ≤ r ∧ 0 ≤ f r) : bGood f rs (bRun f rs) := by
  have key : ∀ k, k ≤ rs.length → bGood f (rs.take k) (bRun f (rs.take k)) := by
    intro k
    induction k with
    | zero => exact fun _ => .inl ⟨rfl, rfl⟩
    | succ k ih =>
      intro hk
      rw [bRun_take f rs k (by omega), List.take_succ_eq_append_getElem (by omega), List.getD_eq_getElem?_getD, List.getElem?_eq_getElem (by omega)]
      exact (ih (by omega)).step _ (h _ (List.getElem_mem _))
  have := key rs.length (Nat.le_refl _)
  rwa [List.take_length] at this
/-- what the law's own function tells -/
def fw (ws : List Int) (r : Int) : Int := if ws.length = 0 then 0 else ws.getD (r % (ws.length : Int)).toNat 0 % 4
theorem fw_b (ws : List Int) (r : Int) (hu : ∀ z ∈ ws, 0 ≤ z ∧ z ≤ 255) : 0 ≤ fw ws r := by
  unfold fw
  split
  · omega
  · omega
set_option maxRecDepth 100000 in
set_option maxHeartbeats 1000000 in
theorem fw_any (ws : List Int) (vb : Nat) (a : Option Addr) (l c : Nat) (r : Int) (w : World) (hV : OAt w vb (.cells #[.slice a l c] 25)) (hR : RowIn .u8 w a l c ws) (hr : 0 ≤ r ∧ r ≤ 18446744073709551615) (hu : ∀ z ∈ ws, 0 ≤ z ∧ z ≤ 255) :
    Calls Try.prog 19 #[.int .u64 r, .pointer (some ⟨vb, 0, none⟩)] w fun e w' => e = .returned (.int .u64 (fw ws r)) ∧ Below w.heap.size w w' := by
  have hl := hR.len
  have hc := hR.cap
  unfold maxLen at hc
  have c0 := hV.cell 0
  simp only [List.getElem?_toArray, List.getElem?_cons_zero] at c0
  by_cases h0 : l = 0
  · subst h0
    have e : Hid (fw ws r = 0) := hide (by unfold fw; rw [if_pos hl])
    clear hR hV
    go_enter Try.func19, Try.ntmps19
    go_wp2
    go_ret
    exact ⟨by rw [e.out]; rfl, Below.refl _ _⟩
  · obtain ⟨q, hq⟩ : ∃ q : Nat, r % (l : Int) = (q : Int) := ⟨(r % (l : Int)).toNat, by have := Int.emod_nonneg r (show (l : Int) ≠ 0 by omega); omega⟩
    have hql : q < l := by have := Int.emod_lt_of_pos r (show (0 : Int) < l by omega); omega
    obtain ⟨b, off, rfl, hbs, hcn⟩ := hR.cell q hql
    obtain ⟨y, hy⟩ : ∃ y, Hid (ws.getD q 0 = y) := ⟨_, rfl⟩
    have hyb : 0 ≤ y ∧ y ≤ 255 := by
      rw [← hy.out]
      exact hu _ (by rw [List.getD_eq_getElem?_getD, List.getElem?_eq_getElem (by omega)]; exact List.getElem_mem _)
    rw [hy.out] at hcn
    have e : Hid (fw ws r = y % 4) := hide (by unfold fw; rw [hl, if_neg h0, hq, Int.toNat_natCast, hy.out])
    have hlz : ((l : Int) == 0) = false := by simp only [beq_eq_false_iff_ne, ne_eq]; omega
    have hql' : (q : Int) < (l : Int) := by omega
    have hq0 : (0 : Int) ≤ (q : Int) := by omega
    have hlw : IntKind.u64.wrap (l : Int) = (l : Int) := by rw [IntKind.wrap_u64]; omega
    have hrm : r.tmod (l : Int) = (q : Int) := by rw [Int.tmod_eq_emod_of_nonneg hr.1]; exact hq
    have hqw : IntKind.u64.wrap (q : Int) = (q : Int) := by rw [IntKind.wrap_u64]; omega
    have hy4 : y.tmod 4 = y % 4 := Int.tmod_eq_emod_of_nonneg hyb.1
    have hyw : IntKind.u64.wrap (y % 4) = y % 4 := by rw [IntKind.wrap_u64]; omega
    clear hR hV hl hq
    go_enter Try.func19, Try.ntmps19
    go_upto_region 3 with fail
    go_quiet (fail)
    go_wp2
    go_ret
    exact ⟨by rw [e.out]; rfl, ⟨rfl, rfl, rfl, Nat.le_refl _, fun _ _ => rfl⟩⟩
end Go.Proofs.Ythdohlcaocajdaa

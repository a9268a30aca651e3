/- Contracts of latest's ways: Of, counts, Take, Ban, Get. -/
import Derived.Test.YthdohlcaocajdaaEntRep

import Derived.Deep.QuietTactic

import Derived.BigQuiet

namespace Go.Proofs.Ythdohlcaocajdaa

open Go.ChangeShapes Go.WideShapes Go.ChangeAt Go.RowKit

set_option linter.unusedVariables false

def I64e (r : Int) : Prop := -9223372036854775808 ≤ r ∧ r ≤ 9223372036854775807
theorem isB_nat {n : Nat} {who : Int} (h : isB n who = true) : ∃ k : Nat, who = (k : Int) ∧ k < n := by
  have := of_decide_eq_true h
  exact ⟨who.toNat, by omega, by omega⟩
theorem ent_cells {w : World} {g : Nat} {es : List Ent} (h : OAt w g (eobj es)) (k : Nat) (hk : k < es.length) (x : Ent) (hx : entK es k = x) :
    w.cell? ⟨g, k * 4, none⟩ = some (.bool x.h) ∧ w.cell? ⟨g, k * 4 + 1, none⟩ = some (.int .i64 x.e) ∧ w.cell? ⟨g, k * 4 + 2, none⟩ = some (.int .u64 x.r) ∧ w.cell? ⟨g, k * 4 + 3, none⟩ = some (.bool x.b) := by
  subst hx
  exact ⟨h.ent k hk 0 (by decide), h.ent k hk 1 (by decide), h.ent k hk 2 (by decide), h.ent k hk 3 (by decide)⟩

set_option maxRecDepth 100000 in
set_option maxHeartbeats 400000 in
theorem counts_any (es : List Ent) (g n : Nat) (who : Int) (w : World) (h : OAt w g (eobj es)) (hn : es.length = n) (hm : n ≤ 4096) (hw : I64e who) :
    Calls Try.prog 41 #[.slice (some ⟨g, 0, none⟩) n n, .int .i64 who] w fun e w' => e = .returned (.bool (ctB es who)) ∧ w' = w := by
  have hw1 := hw.1
  have hw2 := hw.2
  clear hw
  by_cases h0 : who < 0
  · have e1 : Hid (ctB es who = false) := by unfold ctB isB; rw [decide_eq_false (by omega)]; exact hide rfl
    go_enter Try.func41, Try.ntmps41
    go_wp2
    go_ret
    exact ⟨by rw [e1.out]; rfl, rfl⟩
  by_cases h1 : (n : Int) ≤ who
  · have e1 : Hid (ctB es who = false) := by unfold ctB isB; rw [decide_eq_false (by omega)]; exact hide rfl
    go_enter Try.func41, Try.ntmps41
    go_wp2
    go_ret
    exact ⟨by rw [e1.out]; rfl, rfl⟩
  obtain ⟨k, rfl⟩ : ∃ k : Nat, who = (k : Int) := ⟨who.toNat, by omega⟩
  have hk : k < n := by omega
  obtain ⟨x, hx⟩ : ∃ x, Hid (entK es k = x) := ⟨_, rfl⟩
  obtain ⟨c0, c1, c2, c3⟩ := ent_cells h k (by omega) x hx.out
  have e1 : Hid (ctB es (k : Int) = !x.b) := by unfold ctB isB; rw [decide_eq_true (by omega), Int.toNat_natCast, hx.out]; exact hide rfl
  clear h0 h1 hw1 hw2
  go_enter Try.func41, Try.ntmps41
  go_wp2
  go_ret
  exact ⟨by rw [e1.out]; rfl, rfl⟩

/-- an index that is -/
theorem ct_true {es : List Ent} {who : Int} (h : ctB es who = true) : ∃ k : Nat, who = (k : Int) ∧ k < es.length ∧ (entK es k).b = false := by
  unfold ctB at h
  obtain ⟨h1, h2⟩ := Bool.and_eq_true_iff.1 h
  obtain ⟨k, rfl, hk⟩ := isB_nat h1
  exact ⟨k, rfl, hk, by simpa using h2⟩
theorem OAt.put3 {w : World} {g : Nat} {es : List Ent} (h : OAt w g (eobj es)) (k : Nat) (hk : k < es.length) (hb : (entK es k).b = false) (e r : Int) :
    OAt (((w.setCell ⟨g, k * 4, none⟩ (.bool true)).setCell ⟨g, k * 4 + 1, none⟩ (.int .i64 e)).setCell ⟨g, k * 4 + 2, none⟩ (.int .u64 r)) g (eobj (es.set k ⟨true, e, r, false⟩)) := by
  have a0 := OAt.cellSet h (k * 4) (.bool true)
  rw [show (entC es).toArray.setIfInBounds (k * 4) (.bool true) = (entC (es.set k ⟨true, (entK es k).e, (entK es k).r, false⟩)).toArray from set4 es k 0 hk (by decide) _ _ (by rw [← hb]; rfl)] at a0
  have a1 := OAt.cellSet a0 (k * 4 + 1) (.int .i64 e)
  have hk1 : k < (es.set k ⟨true, (entK es k).e, (entK es k).r, false⟩).length := by rw [List.length_set]; exact hk
  rw [set4 _ k 1 hk1 (by decide) _ ⟨true, e, (entK es k).r, false⟩ (by rw [entK_set _ _ _ _ hk, if_pos rfl]; rfl), List.set_set] at a1
  have a2 := OAt.cellSet a1 (k * 4 + 2) (.int .u64 r)
  have hk2 : k < (es.set k ⟨true, e, (entK es k).r, false⟩).length := by rw [List.length_set]; exact hk
  rw [set4 _ k 2 hk2 (by decide) _ ⟨true, e, r, false⟩ (by rw [entK_set _ _ _ _ hk, if_pos rfl]; rfl), List.set_set] at a2
  exact a2
theorem OAt.putB {w : World} {g : Nat} {es : List Ent} (h : OAt w g (eobj es)) (k : Nat) (hk : k < es.length) (x : Ent) (hx : entK es k = x) :
    OAt (w.setCell ⟨g, k * 4 + 3, none⟩ (.bool true)) g (eobj (es.set k ⟨x.h, x.e, x.r, true⟩)) := by
  subst hx
  have a0 := OAt.cellSet h (k * 4 + 3) (.bool true)
  rw [set4 es k 3 hk (by decide) _ ⟨(entK es k).h, (entK es k).e, (entK es k).r, true⟩ rfl] at a0
  exact a0

set_option maxRecDepth 100000 in
set_option maxHeartbeats 400000 in
theorem get_any (es : List Ent) (g n : Nat) (who : Int) (w : World) (h : OAt w g (eobj es)) (hn : es.length = n) (hm : n ≤ 4096) (hw : I64e who) :
    Calls Try.prog 22 #[.slice (some ⟨g, 0, none⟩) n n, .int .i64 who] w fun e w' => e = .returned (.tuple #[.int .u64 (getR es who), .bool (getB' es who)]) ∧ w' = w := by
  have H := hide (counts_any es g n who w h hn hm hw)
  by_cases hc : ctB es who = true
  · obtain ⟨k, rfl, hk, hb⟩ := ct_true hc
    rw [hn] at hk
    obtain ⟨x, hx⟩ : ∃ x, Hid (entK es k = x) := ⟨_, rfl⟩
    obtain ⟨c0, c1, c2, c3⟩ := ent_cells h k (by omega) x hx.out
    rw [hc] at H
    have e1 : Hid (getB' es (k : Int) = x.h) := by unfold getB'; rw [hc, Int.toNat_natCast, hx.out]; exact hide rfl
    have e2 : Hid (getR es (k : Int) = bif x.h then x.r else 0) := by unfold getR; rw [e1.out, Int.toNat_natCast, hx.out]; exact hide rfl
    rw [e1.out, e2.out]
    obtain ⟨xh, xe, xr, xb⟩ := x
    simp only at c0 c1 c2 c3 e1 e2 ⊢
    clear hc hb e1 e2 hx
    go_enter Try.func22, Try.ntmps22
    cases xh
    · go_wp2_with (go_at_call 41; refine H.out.mono ?_; rintro e w' ⟨rfl, hw⟩; obtain rfl : _ = w' := hw.symm)
      go_ret2
      exact ⟨rfl, rfl⟩
    · go_wp2_with (go_at_call 41; refine H.out.mono ?_; rintro e w' ⟨rfl, hw⟩; obtain rfl : _ = w' := hw.symm)
      go_ret2
      exact ⟨rfl, rfl⟩
  · have hc : ctB es who = false := by simpa using hc
    rw [hc] at H
    have e1 : getB' es who = false := by unfold getB'; rw [hc]; rfl
    rw [show getR es who = 0 from by unfold getR; rw [e1]; rfl, e1]
    go_enter Try.func22, Try.ntmps22
    go_wp2_with (go_at_call 41; refine H.out.mono ?_; rintro e w' ⟨rfl, hw⟩; obtain rfl : _ = w' := hw.symm)
    go_ret2
    exact ⟨rfl, rfl⟩

set_option maxRecDepth 100000 in
set_option maxHeartbeats 400000 in
theorem ban_any (es : List Ent) (g n : Nat) (who : Int) (w : World) (h : OAt w g (eobj es)) (hn : es.length = n) (hm : n ≤ 4096) (hw : I64e who) :
    Calls Try.prog 15 #[.slice (some ⟨g, 0, none⟩) n n, .int .i64 who] w fun e w' => e = .returned (.bool (ctB es who)) ∧ OAt w' g (eobj (banE es who)) ∧ Apart g w w' := by
  have H := hide (counts_any es g n who w h hn hm hw)
  by_cases hc : ctB es who = true
  · obtain ⟨k, rfl, hk, hb⟩ := ct_true hc
    have hk0 := hk
    rw [hn] at hk
    obtain ⟨c0, c1, c2, c3⟩ := ent_cells h k (by omega) _ rfl
    rw [hc] at H ⊢
    have hz := h.thaw
    have P : Hid (OAt (w.setCell ⟨g, k * 4 + 3, none⟩ (.bool true)) g (eobj (banE es (k : Int)))) := by
      unfold banE
      rw [hc, Int.toNat_natCast]
      exact hide (h.putB k hk0 _ rfl)
    have A := hide ((Apart.refl g w).set (k * 4 + 3) (.bool true))
    clear hc hb c0 c1 c2
    go_enter Try.func15, Try.ntmps15
    go_wp2_with (go_at_call 41; refine H.out.mono ?_; rintro e w' ⟨rfl, hw⟩; obtain rfl : _ = w' := hw.symm)
    go_ret
    exact ⟨rfl, P.out, A.out⟩
  · have hc : ctB es who = false := by simpa using hc
    rw [hc] at H ⊢
    have P : Hid (OAt w g (eobj (banE es who))) := by
      unfold banE
      rw [hc]
      exact hide h
    go_enter Try.func15, Try.ntmps15
    go_wp2_with (go_at_call 41; refine H.out.mono ?_; rintro e w' ⟨rfl, hw⟩; obtain rfl : _ = w' := hw.symm)
    go_ret
    exact ⟨rfl, P.out, Apart.refl _ _⟩

set_option maxRecDepth 100000 in
set_option maxHeartbeats 1000000 in
theorem take_any (es : List Ent) (g n : Nat) (who ep r : Int) (w : World) (h : OAt w g (eobj es)) (hn : es.length = n) (hm : n ≤ 4096) (hw : I64e who) (he : I64e ep) :
    Calls Try.prog 14 #[.slice (some ⟨g, 0, none⟩) n n, .int .i64 who, .int .i64 ep, .int .u64 r] w fun e w' => e = .returned (.bool (takeB es who ep)) ∧ OAt w' g (eobj (takeE es who ep r)) ∧ Apart g w w' := by
  have H := hide (counts_any es g n who w h hn hm hw)
  by_cases hc : ctB es who = true
  · obtain ⟨k, rfl, hk, hb⟩ := ct_true hc
    have hk0 := hk
    rw [hn] at hk
    obtain ⟨x, hx⟩ : ∃ x, Hid (entK es k = x) := ⟨_, rfl⟩
    obtain ⟨c0, c1, c2, c3⟩ := ent_cells h k (by omega) x hx.out
    rw [hc] at H
    have hz := h.thaw
    by_cases ht : takeB es (k : Int) ep = true
    · have P := hide (h.put3 k hk0 hb ep r)
      have A := hide ((((Apart.refl g w).set (k * 4) (.bool true)).set (k * 4 + 1) (.int .i64 ep)).set (k * 4 + 2) (.int .u64 r))
      have e1 : Hid (takeE es (k : Int) ep r = es.set k ⟨true, ep, r, false⟩) := by unfold takeE; rw [ht, Int.toNat_natCast]; exact hide rfl
      rw [e1.out, ht]
      have s0 := OAt.cellSet h (k * 4) (.bool true)
      have s1 := OAt.cellSet s0 (k * 4 + 1) (.int .i64 ep)
      have z0 := s0.thaw
      have z1 := s1.thaw
      have d1 : (w.setCell ⟨g, k * 4, none⟩ (.bool true)).cell? ⟨g, k * 4 + 1, none⟩ = some (.int .i64 x.e) := by
        rw [s0.cell, Array.getElem?_setIfInBounds_ne (by omega), ← h.cell]; exact c1
      have d2 : ((w.setCell ⟨g, k * 4, none⟩ (.bool true)).setCell ⟨g, k * 4 + 1, none⟩ (.int .i64 ep)).cell? ⟨g, k * 4 + 2, none⟩ = some (.int .u64 x.r) := by
        rw [s1.cell, Array.getElem?_setIfInBounds_ne (by omega), Array.getElem?_setIfInBounds_ne (by omega), ← h.cell]; exact c2
      have ht2 : x.h = false ∨ x.h = true ∧ ¬ ep ≤ x.e := by
        unfold takeB at ht
        rw [hc, Int.toNat_natCast, hx.out] at ht
        cases hh : x.h
        · exact .inl rfl
        · right
          rw [hh] at ht
          refine ⟨rfl, ?_⟩
          simpa using ht
      clear s0 s1 hc hb ht
      rcases ht2 with hh | ⟨hh, hl⟩
      · rw [hh] at c0
        go_enter Try.func14, Try.ntmps14
        go_wp2_with (go_at_call 41; refine H.out.mono ?_; rintro e w' ⟨rfl, hw⟩; obtain rfl : _ = w' := hw.symm)
        go_ret
        exact ⟨rfl, P.out, A.out⟩
      · rw [hh] at c0
        go_enter Try.func14, Try.ntmps14
        go_wp2_with (go_at_call 41; refine H.out.mono ?_; rintro e w' ⟨rfl, hw⟩; obtain rfl : _ = w' := hw.symm)
        go_ret
        exact ⟨rfl, P.out, A.out⟩
    · have ht : takeB es (k : Int) ep = false := by simpa using ht
      have e1 : Hid (takeE es (k : Int) ep r = es) := by unfold takeE; rw [ht]; exact hide rfl
      rw [e1.out, ht]
      have ht2 : x.h = true ∧ ep ≤ x.e := by
        unfold takeB at ht
        rw [hc, Int.toNat_natCast, hx.out] at ht
        simpa using ht
      obtain ⟨hh, hl⟩ := ht2
      rw [hh] at c0
      clear hc hb ht
      go_enter Try.func14, Try.ntmps14
      go_wp2_with (go_at_call 41; refine H.out.mono ?_; rintro e w' ⟨rfl, hw⟩; obtain rfl : _ = w' := hw.symm)
      go_ret
      exact ⟨rfl, h, Apart.refl _ _⟩
  · have hc : ctB es who = false := by simpa using hc
    rw [hc] at H
    have ht : takeB es who ep = false := by unfold takeB; rw [hc]; rfl
    have e1 : Hid (takeE es who ep r = es) := by unfold takeE; rw [ht]; exact hide rfl
    rw [e1.out, ht]
    go_enter Try.func14, Try.ntmps14
    go_wp2_with (go_at_call 41; refine H.out.mono ?_; rintro e w' ⟨rfl, hw⟩; obtain rfl : _ = w' := hw.symm)
    go_ret
    exact ⟨rfl, h, Apart.refl _ _⟩

theorem infoE : (Try.prog.info? 88).map (fun i => (i.zero, i.size, i.bytes)) = some (some (.agg #[.bool false, .int .i64 0, .int .u64 0, .bool false]), 4, 32) := by kernel_rfl
theorem infoEs : (Try.prog.info? 88).map (·.size) = some 4 := by kernel_rfl
def sizeE (n : Int) : Nat := (if (if n < 0 then 0 else n) < 4096 then (if n < 0 then 0 else n) else 4096).toNat
set_option maxRecDepth 100000 in
set_option maxHeartbeats 400000 in
theorem of_ent (n : Int) (w : World) (hn : I64e n) :
    Calls Try.prog 13 #[.int .i64 n] w fun e w' => ∃ g, e = .returned (.slice (some ⟨g, 0, none⟩) (sizeE n) (sizeE n)) ∧ OAt w' g (eobj (List.replicate (sizeE n) Ent.zero)) ∧ w.heap.size ≤ g ∧ Below w.heap.size w w' := by
  obtain ⟨k, hk⟩ : ∃ k, Hid (sizeE n = k) := ⟨_, rfl⟩
  have hk2 : k ≤ 4096 := by rw [← hk.out]; unfold sizeE; split <;> split <;> omega
  obtain ⟨i0, hi, hz0, hz1, hz2⟩ := info_parts infoE
  have HA := hide (OAt.new w (eobj (List.replicate k Ent.zero)))
  have HB := hide ((Below.refl w.heap.size w).alloc (Nat.le_refl _) (eobj (List.replicate k Ent.zero)))
  unfold eobj at HA HB
  rw [← zero_cells] at HA HB
  rw [hk.out]
  have fin : ∀ w2 : World, w2 = w.alloc (.cells (madeCells #[.bool false, .int .i64 0, .int .u64 0, .bool false] (k * 4)) 88) → (∃ g, Ending.returned (Value.slice (some ⟨w.heap.size, 0, none⟩) k k) = Ending.returned (.slice (some ⟨g, 0, none⟩) k k) ∧ OAt w2 g (eobj (List.replicate k Ent.zero)) ∧ w.heap.size ≤ g ∧ Below w.heap.size w w2) := by
    rintro w2 rfl
    refine ⟨_, rfl, ?_, Nat.le_refl _, HB.out⟩
    unfold eobj
    rw [← zero_cells]
    exact HA.out
  have hb : i0.bytes * k ≤ 281474976710656 := by rw [hz2]; omega
  have hml : k ≤ maxLen := by unfold maxLen; omega
  replace fin := hide fin
  clear HA HB
  by_cases h0 : n < 0
  · have hk0 : (0 : Int) = (k : Int) := by rw [← hk.out]; unfold sizeE; rw [if_pos h0]; rfl
    replace hk0 := hide hk0
    go_enter Try.func13, Try.ntmps13
    go_wp2_with (at_make; refine wpList_make_cells _ rfl _ _ 35 rfl 88 i0 _ 4 Try.underlying35 hi hz0 hz1 _ _ _ k rfl rfl hk0.out hb hml ?_)
    go_ret
    exact fin.out _ rfl
  by_cases h1 : 4096 < n
  · have hk0 : (4096 : Int) = (k : Int) := by rw [← hk.out]; unfold sizeE; rw [if_neg h0, if_neg (by omega)]; rfl
    replace hk0 := hide hk0
    go_enter Try.func13, Try.ntmps13
    go_wp2_with (at_make; refine wpList_make_cells _ rfl _ _ 35 rfl 88 i0 _ 4 Try.underlying35 hi hz0 hz1 _ _ _ k rfl rfl hk0.out hb hml ?_)
    go_ret
    exact fin.out _ rfl
  · have hk0 : n = (k : Int) := by rw [← hk.out]; unfold sizeE; rw [if_neg h0]; split <;> omega
    replace hk0 := hide hk0
    go_enter Try.func13, Try.ntmps13
    go_wp2_with (at_make; refine wpList_make_cells _ rfl _ _ 35 rfl 88 i0 _ 4 Try.underlying35 hi hz0 hz1 _ _ _ k rfl rfl hk0.out hb hml ?_)
    go_ret
    exact fin.out _ rfl
end Go.Proofs.Ythdohlcaocajdaa

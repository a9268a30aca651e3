/- Contract of psephoslaw10's count, where a vote counts. -/
import Derived.Test.YtphahkjjmomjcaaLLaw

import Derived.Test.YtphahkjjmomjcaaLMut

import Derived.Test.YtphahkjjmomjcaaLCnt

import Derived.Test.YtphahkjjmomjcaaLHelp2

namespace Go.Proofs.Ytphahkjjmomjcaa

open Go.ChangeShapes Go.WideShapes Go.ChangeAt Go.RowKit

set_option linter.unusedVariables false

set_option maxRecDepth 100000 in
set_option maxHeartbeats 8000000 in
theorem count_yes (S : LS) (who : List Int) (F : Nat) (cap : Array Value) (f : Int → Int) (a : Option Addr) (n c : Nat) (s b : Int) (a1 : Option Addr) (c1 : Nat) (a2 : Option Addr) (c2 : Nat) (vs vh se sr te tr : Int) (a3 : Option Addr) (l3 c3 : Nat) (w : World)
    (hV : RowB w a1 n c1 S.bf) (hU : RowB w a2 n c2 S.nw) (hn : 0 < n ∧ n ≤ 4096)
    (hW : RowIn .i64 w a3 l3 c3 who) (hF : Enters F) (hC : ChainOf w F cap f) (he : I64s S.e) (hs : I64s s) (hvs : I64s vs) (hte : I64s te) (hb : cntB n s f S ⟨vs, vh, se, sr, te, tr, who⟩ = true) :
    Calls Try.prog 33 #[.agg #[.slice a n c, .int .i64 s, .int .i64 b], .agg (lcells S.j S.e a1 n c1 a2 n c2), .agg (vcells vs vh se sr te tr a3 l3 c3), chv F cap] w fun x w' =>
      ∃ b1 d1 b2 d2, x = .returned (.tuple #[.agg (lcells S.j S.e b1 n d1 b2 n d2), .bool true]) ∧ RowB w' b1 n d1 (cntS n s f S ⟨vs, vh, se, sr, te, tr, who⟩).bf ∧ RowB w' b2 n d2 (cntS n s f S ⟨vs, vh, se, sr, te, tr, who⟩).nw ∧ (∀ b off, b1 = some ⟨b, off, none⟩ → w.heap.size ≤ b) ∧ (∀ b off, b2 = some ⟨b, off, none⟩ → w.heap.size ≤ b) ∧ Below w.heap.size w w' := by
  have HX := hide ((((OAt.new w (cfg a n c s b)).alloc (lobj S.j S.e a1 n c1 a2 n c2)).alloc (vobj vs vh se sr te tr a3 l3 c3)).alloc (lobj jz 0 none 0 0 none 0 0))
  have HS := hide (((OAt.new (w.alloc (cfg a n c s b)) (lobj S.j S.e a1 n c1 a2 n c2)).alloc (vobj vs vh se sr te tr a3 l3 c3)).alloc (lobj jz 0 none 0 0 none 0 0))
  have HO := hide ((OAt.new ((w.alloc (cfg a n c s b)).alloc (lobj S.j S.e a1 n c1 a2 n c2)) (vobj vs vh se sr te tr a3 l3 c3)).alloc (lobj jz 0 none 0 0 none 0 0))
  have HT := hide (OAt.new (((w.alloc (cfg a n c s b)).alloc (lobj S.j S.e a1 n c1 a2 n c2)).alloc (vobj vs vh se sr te tr a3 l3 c3)) (lobj jz 0 none 0 0 none 0 0))
  have HN := hide (((((Below.refl _ w).alloc (Nat.le_refl _) (cfg a n c s b)).alloc (by simp) (lobj S.j S.e a1 n c1 a2 n c2)).alloc (by simp; omega) (vobj vs vh se sr te tr a3 l3 c3)).alloc (by simp; omega) (lobj jz 0 none 0 0 none 0 0))
  simp only [World.size_alloc] at HS HO HT
  have HVs := hide hV
  have HUs := hide hU
  obtain ⟨i0, hi, hz0, hz1, hz2⟩ := info_parts infoB
  have hl3 := hW.len
  have hc3 := hW.cap
  unfold maxLen at hc3
  have hcs : Hid (cntS n s f S ⟨vs, vh, se, sr, te, tr, who⟩ = if isNow S ⟨vs, vh, se, sr, te, tr, who⟩ then ⟨S.j, S.e, S.bf, mark S.nw who⟩ else ⟨S.j, S.e, mark S.bf who, S.nw⟩) := by
    show _ = _
    unfold cntS
    rw [if_pos hb]
  rw [hcs.out]
  obtain ⟨N, hN⟩ : ∃ x, Hid (isNow S ⟨vs, vh, se, sr, te, tr, who⟩ = x) := ⟨_, rfl⟩
  rw [hN.out]
  have HWs := hide hW
  have HCs := hide hC
  clear hC hW hV hU hcs
  go_enter Try.func33, Try.ntmps33
  go_upto_region 1 with fail
  rw [show (#[Value.bool false, Value.bool false, Value.bool false, Value.bool false, Value.int IntKind.i64 0, Value.int IntKind.u64 0, Value.int IntKind.i64 0, Value.int IntKind.u64 0, Value.int IntKind.i64 0, Value.int IntKind.u64 0, Value.int IntKind.i64 0, Value.slice none 0 0, Value.slice none 0 0] : Array Value) = lcells jz 0 none 0 0 none 0 0 from rfl]
  generalize hW : (((w.alloc (cfg a n c s b)).alloc (lobj S.j S.e a1 n c1 a2 n c2)).alloc (vobj vs vh se sr te tr a3 l3 c3)).alloc (lobj jz 0 none 0 0 none 0 0) = W at HX HS HO HT HN
  have hWs : W.heap.size = w.heap.size + 1 + 1 + 1 + 1 := by rw [← hW]; simp
  clear hW
  obtain ⟨D, hD⟩ : ∃ x, Hid (isBefore S ⟨vs, vh, se, sr, te, tr, who⟩ = x) := ⟨_, rfl⟩
  obtain ⟨E1, hE1⟩ : ∃ x, Hid (wrap64 (S.e - 1) = x) := ⟨_, rfl⟩
  obtain ⟨o0, o1, o2, o3, o4, o5, o6⟩ : W.cell? ⟨w.heap.size + 1 + 1, 0, none⟩ = some (.int .i64 vs) ∧ W.cell? ⟨w.heap.size + 1 + 1, 1, none⟩ = some (.int .u64 vh) ∧ W.cell? ⟨w.heap.size + 1 + 1, 2, none⟩ = some (.int .i64 se) ∧ W.cell? ⟨w.heap.size + 1 + 1, 3, none⟩ = some (.int .u64 sr) ∧ W.cell? ⟨w.heap.size + 1 + 1, 4, none⟩ = some (.int .i64 te) ∧ W.cell? ⟨w.heap.size + 1 + 1, 5, none⟩ = some (.int .u64 tr) ∧ W.cell? ⟨w.heap.size + 1 + 1, 6, none⟩ = some (.slice a3 l3 c3) :=
    ⟨HO.out.cell 0, HO.out.cell 1, HO.out.cell 2, HO.out.cell 3, HO.out.cell 4, HO.out.cell 5, HO.out.cell 6⟩
  have hj4 : W.cell? ⟨w.heap.size + 1, 4, none⟩ = some (.int .i64 S.j.pe) := HS.out.cell 4
  have hj5 : W.cell? ⟨w.heap.size + 1, 5, none⟩ = some (.int .u64 S.j.pr) := HS.out.cell 5
  have hj6 : W.cell? ⟨w.heap.size + 1, 6, none⟩ = some (.int .i64 S.j.ce) := HS.out.cell 6
  have hj7 : W.cell? ⟨w.heap.size + 1, 7, none⟩ = some (.int .u64 S.j.cr) := HS.out.cell 7
  have hl := HS.out.lc.1
  go_cut [10] from 15 to 28 (fun x wx => x = .bool N ∧ wx = W)
  case first =>
    have hN2 : N = (decide (te = S.e) && decide (se = S.j.ce ∧ sr = S.j.cr)) := hN.out.symm
    clear hN hD hE1 hb
    by_cases e1 : te = S.e
    · by_cases e2 : se = S.j.ce
      · by_cases e3 : sr = S.j.cr
        · rw [decide_eq_true e1, decide_eq_true (And.intro e2 e3)] at hN2
          subst hN2
          subst e1
          subst e2
          subst e3
          go_wp2
          go_meet
          exact ⟨rfl, rfl⟩
        · rw [decide_eq_false (fun h : se = S.j.ce ∧ sr = S.j.cr => e3 h.2), Bool.and_false] at hN2
          subst hN2
          subst e1
          subst e2
          go_wp2
          all_goals go_meet
          all_goals exact ⟨rfl, rfl⟩
      · rw [decide_eq_false (fun h : se = S.j.ce ∧ sr = S.j.cr => e2 h.1), Bool.and_false] at hN2
        subst hN2
        subst e1
        go_wp2
        all_goals go_meet
        all_goals exact ⟨rfl, rfl⟩
    · rw [decide_eq_false e1, Bool.false_and] at hN2
      subst hN2
      go_wp2
      all_goals go_meet
      all_goals exact ⟨rfl, rfl⟩
  case rest =>
    obtain ⟨rfl, hw1⟩ := hcut
    obtain rfl : _ = wc := hw1.symm
    have hwr : IntKind.i64.wrap (S.e - 1) = E1 := by rw [← hE1.out, IntKind.wrap_i64]; unfold wrap64; omega
    go_upto_region 2 with fail
    go_cut [11] from 29 to 43 (fun x wx => x = .bool D ∧ wx = W)
    case first =>
      have hD2 : D = (decide (te = wrap64 (S.e - 1)) && decide (se = S.j.pe ∧ sr = S.j.pr)) := hD.out.symm
      rw [hE1.out] at hD2
      clear hN hD hE1 hb
      by_cases e1 : te = E1
      · by_cases e2 : se = S.j.pe
        · by_cases e3 : sr = S.j.pr
          · rw [decide_eq_true e1, decide_eq_true (And.intro e2 e3)] at hD2
            subst hD2
            subst e1
            subst e2
            subst e3
            go_wp2
            go_meet
            exact ⟨rfl, rfl⟩
          · rw [decide_eq_false (fun h : se = S.j.pe ∧ sr = S.j.pr => e3 h.2), Bool.and_false] at hD2
            subst hD2
            subst e1
            subst e2
            go_wp2
            all_goals go_meet
            all_goals exact ⟨rfl, rfl⟩
        · rw [decide_eq_false (fun h : se = S.j.pe ∧ sr = S.j.pr => e2 h.1), Bool.and_false] at hD2
          subst hD2
          subst e1
          go_wp2
          all_goals go_meet
          all_goals exact ⟨rfl, rfl⟩
      · rw [decide_eq_false e1, Bool.false_and] at hD2
        subst hD2
        go_wp2
        all_goals go_meet
        all_goals exact ⟨rfl, rfl⟩
    case rest =>
      obtain ⟨rfl, hw2⟩ := hcut
      obtain rfl : _ = wc := hw2.symm
      clear o0 o1 o2 o3 o4 o5 o6 hj4 hj5 hj6 hj7 hl hwr hE1
      have hxs : Hid (∀ w', Below W.heap.size W w' → w'.cell? ⟨w.heap.size, 0, none⟩ = some (.slice a n c) ∧ w'.cell? ⟨w.heap.size, 1, none⟩ = some (.int .i64 s) ∧ w'.cell? ⟨w.heap.size, 2, none⟩ = some (.int .i64 b)) := fun w' h => by
        have V := HX.out.below h
        exact ⟨V.cell 0, V.cell 1, V.cell 2⟩
      have hos : Hid (∀ w', Below W.heap.size W w' → w'.cell? ⟨w.heap.size + 1 + 1, 0, none⟩ = some (.int .i64 vs) ∧ w'.cell? ⟨w.heap.size + 1 + 1, 1, none⟩ = some (.int .u64 vh) ∧ w'.cell? ⟨w.heap.size + 1 + 1, 2, none⟩ = some (.int .i64 se) ∧ w'.cell? ⟨w.heap.size + 1 + 1, 3, none⟩ = some (.int .u64 sr) ∧ w'.cell? ⟨w.heap.size + 1 + 1, 4, none⟩ = some (.int .i64 te) ∧ w'.cell? ⟨w.heap.size + 1 + 1, 5, none⟩ = some (.int .u64 tr) ∧ w'.cell? ⟨w.heap.size + 1 + 1, 6, none⟩ = some (.slice a3 l3 c3)) := fun w' h => by
        have V := HO.out.below h
        exact ⟨V.cell 0, V.cell 1, V.cell 2, V.cell 3, V.cell 4, V.cell 5, V.cell 6⟩
      have hin : Hid (∀ w', Below W.heap.size W w' → Below w.heap.size w w') := fun w' h => HN.out.trans (h.mono HN.out.size)
      obtain ⟨R, hR⟩ : ∃ x, Hid ((whoB who (n : Int) && timesB vs se te s) = x) := ⟨_, rfl⟩
      obtain ⟨Y, hY⟩ : ∃ x, Hid (f (stI te s) = x) := ⟨_, rfl⟩
      have HRT : Hid (∀ w', Below W.heap.size W w' → Calls Try.prog 61 #[.agg #[.slice a n c, .int .i64 s, .int .i64 b], .agg (vcells vs vh se sr te tr a3 l3 c3)] w' fun e w'' => e = .returned (.bool R) ∧ Below w'.heap.size w' w'') := fun w' h => by
        rw [← hR.out]
        exact right_any who a n c s b vs vh se sr te tr a3 l3 c3 w' (HWs.out.below (hin.out _ h)) hvs hs
      have HCK : Hid (∀ w', Below W.heap.size W w' → Calls Try.prog 30 #[.agg #[.slice a n c, .int .i64 s, .int .i64 b], .int .i64 te, chv F cap] w' fun e w'' => e = .returned (.agg (pcells te Y)) ∧ Below w'.heap.size w' w'') := fun w' h => by
        rw [← hY.out]
        exact point_law F cap f a n c s b te w' hF (HCs.out.below (hin.out _ h)) hte hs
      have hfin : Hid (∀ w', Below W.heap.size W w' → OAt w' (w.heap.size + 1) (lobj S.j S.e a1 n c1 a2 n c2) ∧ OAt w' (w.heap.size + 1 + 1 + 1) (lobj jz 0 none 0 0 none 0 0) ∧ Below w.heap.size w w') := fun w' h => ⟨HS.out.below h, HT.out.below h, hin.out _ h⟩
      have hb2 : (R && decide (te = lo0 te ∧ tr = Y) && (N || D)) = true := by
        rw [← hR.out, ← hN.out, ← hD.out, ← hY.out]
        exact hb
      obtain ⟨hb3, hnd⟩ := (Bool.and_eq_true _ _).mp hb2
      obtain ⟨rfl, hty⟩ := (Bool.and_eq_true _ _).mp hb3
      have hwho := hide ((whoB_true who n).1 ((Bool.and_eq_true _ _).mp hR.out).1).2.1
      have hty := (of_decide_eq_true hty).2
      subst hty
      have hrow : Hid (∀ w', Below W.heap.size W w' → RowB w' a1 n c1 S.bf ∧ RowB w' a2 n c2 S.nw ∧ RowIn .i64 w' a3 l3 c3 who) := fun w' h => ⟨HVs.out.below (hin.out _ h), HUs.out.below (hin.out _ h), HWs.out.below (hin.out _ h)⟩
      clear hb hb2 hb3 hR hN hD hY HVs HUs HWs HCs
      go_upto_region 3 with fail
      go_cut [66] from 44 to 66 (fun x wx => x = .bool false ∧ Hid (Below W.heap.size W wx))
      case first =>
        clear hfin hrow hwho
        cases N
        · obtain rfl : D = true := by simpa using hnd
          refine startG (fun w' => Below W.heap.size W w') 23 (by kernel_rfl) (Below.refl _ _).drew ?_
          refine takeG (i := 0) (v := .agg #[.slice a n c, .int .i64 s, .int .i64 b]) rfl rfl (by kernel_rfl) (by kernel_rfl) (by kernel_rfl) (by kernel_rfl) (fun _ _ _ h => h) (Or.inl ⟨by kernel_rfl, fun w' hSw => Or.inl ⟨w', ?_, hSw⟩⟩) ?_
          · have hl := hxs.out w' hSw; go_simp
          simp only [List.set_cons_succ, List.set_cons_zero]
          refine takeG (i := 1) (v := .agg (vcells vs vh se sr te tr a3 l3 c3)) rfl rfl (by kernel_rfl) (by kernel_rfl) (by kernel_rfl) (by kernel_rfl) (fun _ _ _ h => h) (Or.inl ⟨by kernel_rfl, fun w' hSw => Or.inl ⟨w', ?_, hSw⟩⟩) ?_
          · have hl := hos.out w' hSw; go_simp
          simp only [List.set_cons_succ, List.set_cons_zero]
          refine takeG (i := 2) (v := .bool true) rfl rfl (by kernel_rfl) (by kernel_rfl) (by kernel_rfl) (by kernel_rfl) (fun _ _ _ h => h) (Or.inl ⟨by kernel_rfl, fun w' hSw => doesOf rfl (by kernel_rfl) fun K hK => ?_⟩) ?_
          · go_simp
            refine (HRT.out _ hSw).mono ?_
            rintro e w2 ⟨rfl, hb⟩
            exact hK.out _ (hSw.trans (hb.mono hSw.size))
          simp only [List.set_cons_succ, List.set_cons_zero]
          refine takeG (i := 3) (v := .bool false) rfl rfl (by kernel_rfl) (by kernel_rfl) (by kernel_rfl) (by kernel_rfl) (fun _ _ _ h => h) (Or.inl ⟨by kernel_rfl, fun w' hSw => Or.inl ⟨w', ?_, hSw⟩⟩) ?_
          · go_simp
          simp only [List.set_cons_succ, List.set_cons_zero]
          refine takeG (i := 4) (v := .bool false) rfl rfl (by kernel_rfl) (by kernel_rfl) (by kernel_rfl) (by kernel_rfl) (fun _ _ _ h => h) (Or.inl ⟨by kernel_rfl, fun w' hSw => Or.inl ⟨w', ?_, hSw⟩⟩) ?_
          · go_simp
          simp only [List.set_cons_succ, List.set_cons_zero]
          refine takeG (i := 5) (v := .bool false) rfl rfl (by kernel_rfl) (by kernel_rfl) (by kernel_rfl) (by kernel_rfl) (fun _ _ _ h => h) (Or.inl ⟨by kernel_rfl, fun w' hSw => Or.inl ⟨w', ?_, hSw⟩⟩) ?_
          · go_simp
          simp only [List.set_cons_succ, List.set_cons_zero]
          refine takeG (i := 6) (v := .bool true) rfl rfl (by kernel_rfl) (by kernel_rfl) (by kernel_rfl) (by kernel_rfl) (fun _ _ _ h => h) (Or.inl ⟨by kernel_rfl, fun w' hSw => Or.inl ⟨w', ?_, hSw⟩⟩) ?_
          · go_simp
          simp only [List.set_cons_succ, List.set_cons_zero]
          refine takeG (i := 7) (v := .bool true) rfl rfl (by kernel_rfl) (by kernel_rfl) (by kernel_rfl) (by kernel_rfl) (fun _ _ _ h => h) (Or.inl ⟨by kernel_rfl, fun w' hSw => Or.inl ⟨w', ?_, hSw⟩⟩) ?_
          · go_simp
          simp only [List.set_cons_succ, List.set_cons_zero]
          refine takeG (i := 8) (v := .bool true) rfl rfl (by kernel_rfl) (by kernel_rfl) (by kernel_rfl) (by kernel_rfl) (fun _ _ _ h => h) (Or.inl ⟨by kernel_rfl, fun w' hSw => Or.inl ⟨w', ?_, hSw⟩⟩) ?_
          · go_simp
          simp only [List.set_cons_succ, List.set_cons_zero]
          refine takeG (i := 9) (v := .bool false) rfl rfl (by kernel_rfl) (by kernel_rfl) (by kernel_rfl) (by kernel_rfl) (fun _ _ _ h => h) (Or.inl ⟨by kernel_rfl, fun w' hSw => Or.inl ⟨w', ?_, hSw⟩⟩) ?_
          · go_simp
          simp only [List.set_cons_succ, List.set_cons_zero]
          refine takeG (i := 10) (v := .bool false) rfl rfl (by kernel_rfl) (by kernel_rfl) (by kernel_rfl) (by kernel_rfl) (fun _ _ _ h => h) (Or.inl ⟨by kernel_rfl, fun w' hSw => Or.inl ⟨w', ?_, hSw⟩⟩) ?_
          · go_simp
          simp only [List.set_cons_succ, List.set_cons_zero]
          refine takeG (i := 11) (v := .bool false) rfl rfl (by kernel_rfl) (by kernel_rfl) (by kernel_rfl) (by kernel_rfl) (fun _ _ _ h => h) (Or.inl ⟨by kernel_rfl, fun w' hSw => Or.inl ⟨w', ?_, hSw⟩⟩) ?_
          · go_simp
          simp only [List.set_cons_succ, List.set_cons_zero]
          refine takeG (i := 12) (v := .bool false) rfl rfl (by kernel_rfl) (by kernel_rfl) (by kernel_rfl) (by kernel_rfl) (fun _ _ _ h => h) (Or.inl ⟨by kernel_rfl, fun w' hSw => Or.inl ⟨w', ?_, hSw⟩⟩) ?_
          · go_simp
          simp only [List.set_cons_succ, List.set_cons_zero]
          refine takeG (i := 13) (v := .pointer (some ⟨w.heap.size + 1 + 1, 4, none⟩)) rfl rfl (by kernel_rfl) (by kernel_rfl) (by kernel_rfl) (by kernel_rfl) (fun _ _ _ h => h) (Or.inl ⟨by kernel_rfl, fun w' hSw => Or.inl ⟨w', ?_, hSw⟩⟩) ?_
          · go_simp
          simp only [List.set_cons_succ, List.set_cons_zero]
          refine takeG (i := 14) (v := .agg (pcells te tr)) rfl rfl (by kernel_rfl) (by kernel_rfl) (by kernel_rfl) (by kernel_rfl) (fun _ _ _ h => h) (Or.inl ⟨by kernel_rfl, fun w' hSw => Or.inl ⟨w', ?_, hSw⟩⟩) ?_
          · have hl := hos.out w' hSw; go_simp
          simp only [List.set_cons_succ, List.set_cons_zero]
          refine takeG (i := 15) (v := .agg #[.slice a n c, .int .i64 s, .int .i64 b]) rfl rfl (by kernel_rfl) (by kernel_rfl) (by kernel_rfl) (by kernel_rfl) (fun _ _ _ h => h) (Or.inl ⟨by kernel_rfl, fun w' hSw => Or.inl ⟨w', ?_, hSw⟩⟩) ?_
          · have hl := hxs.out w' hSw; go_simp
          simp only [List.set_cons_succ, List.set_cons_zero]
          refine takeG (i := 16) (v := .pointer (some ⟨w.heap.size + 1 + 1, 4, none⟩)) rfl rfl (by kernel_rfl) (by kernel_rfl) (by kernel_rfl) (by kernel_rfl) (fun _ _ _ h => h) (Or.inl ⟨by kernel_rfl, fun w' hSw => Or.inl ⟨w', ?_, hSw⟩⟩) ?_
          · go_simp
          simp only [List.set_cons_succ, List.set_cons_zero]
          refine takeG (i := 17) (v := .pointer (some ⟨w.heap.size + 1 + 1, 4, none⟩)) rfl rfl (by kernel_rfl) (by kernel_rfl) (by kernel_rfl) (by kernel_rfl) (fun _ _ _ h => h) (Or.inl ⟨by kernel_rfl, fun w' hSw => Or.inl ⟨w', ?_, hSw⟩⟩) ?_
          · go_simp
          simp only [List.set_cons_succ, List.set_cons_zero]
          refine takeG (i := 18) (v := .int .i64 te) rfl rfl (by kernel_rfl) (by kernel_rfl) (by kernel_rfl) (by kernel_rfl) (fun _ _ _ h => h) (Or.inl ⟨by kernel_rfl, fun w' hSw => Or.inl ⟨w', ?_, hSw⟩⟩) ?_
          · have hl := hos.out w' hSw; go_simp
          simp only [List.set_cons_succ, List.set_cons_zero]
          refine takeG (i := 19) (v := chv F cap) rfl rfl (by kernel_rfl) (by kernel_rfl) (by kernel_rfl) (by kernel_rfl) (fun _ _ _ h => h) (Or.inl ⟨by kernel_rfl, fun w' hSw => Or.inl ⟨w', ?_, hSw⟩⟩) ?_
          · go_simp
          simp only [List.set_cons_succ, List.set_cons_zero]
          refine takeG (i := 20) (v := .agg (pcells te tr)) rfl rfl (by kernel_rfl) (by kernel_rfl) (by kernel_rfl) (by kernel_rfl) (fun _ _ _ h => h) (Or.inl ⟨by kernel_rfl, fun w' hSw => doesOf rfl (by kernel_rfl) fun K hK => ?_⟩) ?_
          · go_simp
            refine (HCK.out _ hSw).mono ?_
            rintro e w2 ⟨rfl, hb⟩
            exact hK.out _ (hSw.trans (hb.mono hSw.size))
          simp only [List.set_cons_succ, List.set_cons_zero]
          refine takeG (i := 21) (v := .bool false) rfl rfl (by kernel_rfl) (by kernel_rfl) (by kernel_rfl) (by kernel_rfl) (fun _ _ _ h => h) (Or.inl ⟨by kernel_rfl, fun w' hSw => Or.inl ⟨w', ?_, hSw⟩⟩) ?_
          · go_simp
          simp only [List.set_cons_succ, List.set_cons_zero]
          refine takeG (i := 22) (v := .bool false) rfl rfl (by kernel_rfl) (by kernel_rfl) (by kernel_rfl) (by kernel_rfl) (fun _ _ _ h => h) (Or.inl ⟨by kernel_rfl, fun w' hSw => Or.inl ⟨w', ?_, hSw⟩⟩) ?_
          · go_simp
          simp only [List.set_cons_succ, List.set_cons_zero]
          refine doneG (by kernel_rfl) fun w' hSw => ?_
          have HF := hide hSw
          clear hSw
          go_wp2
          go_meet
          exact ⟨rfl, HF⟩
        · clear hnd
          refine startG (fun w' => Below W.heap.size W w') 23 (by kernel_rfl) (Below.refl _ _).drew ?_
          refine takeG (i := 0) (v := .agg #[.slice a n c, .int .i64 s, .int .i64 b]) rfl rfl (by kernel_rfl) (by kernel_rfl) (by kernel_rfl) (by kernel_rfl) (fun _ _ _ h => h) (Or.inl ⟨by kernel_rfl, fun w' hSw => Or.inl ⟨w', ?_, hSw⟩⟩) ?_
          · have hl := hxs.out w' hSw; go_simp
          simp only [List.set_cons_succ, List.set_cons_zero]
          refine takeG (i := 1) (v := .agg (vcells vs vh se sr te tr a3 l3 c3)) rfl rfl (by kernel_rfl) (by kernel_rfl) (by kernel_rfl) (by kernel_rfl) (fun _ _ _ h => h) (Or.inl ⟨by kernel_rfl, fun w' hSw => Or.inl ⟨w', ?_, hSw⟩⟩) ?_
          · have hl := hos.out w' hSw; go_simp
          simp only [List.set_cons_succ, List.set_cons_zero]
          refine takeG (i := 2) (v := .bool true) rfl rfl (by kernel_rfl) (by kernel_rfl) (by kernel_rfl) (by kernel_rfl) (fun _ _ _ h => h) (Or.inl ⟨by kernel_rfl, fun w' hSw => doesOf rfl (by kernel_rfl) fun K hK => ?_⟩) ?_
          · go_simp
            refine (HRT.out _ hSw).mono ?_
            rintro e w2 ⟨rfl, hb⟩
            exact hK.out _ (hSw.trans (hb.mono hSw.size))
          simp only [List.set_cons_succ, List.set_cons_zero]
          refine takeG (i := 3) (v := .bool false) rfl rfl (by kernel_rfl) (by kernel_rfl) (by kernel_rfl) (by kernel_rfl) (fun _ _ _ h => h) (Or.inl ⟨by kernel_rfl, fun w' hSw => Or.inl ⟨w', ?_, hSw⟩⟩) ?_
          · go_simp
          simp only [List.set_cons_succ, List.set_cons_zero]
          refine takeG (i := 4) (v := .bool false) rfl rfl (by kernel_rfl) (by kernel_rfl) (by kernel_rfl) (by kernel_rfl) (fun _ _ _ h => h) (Or.inl ⟨by kernel_rfl, fun w' hSw => Or.inl ⟨w', ?_, hSw⟩⟩) ?_
          · go_simp
          simp only [List.set_cons_succ, List.set_cons_zero]
          refine takeG (i := 5) (v := .bool true) rfl rfl (by kernel_rfl) (by kernel_rfl) (by kernel_rfl) (by kernel_rfl) (fun _ _ _ h => h) (Or.inl ⟨by kernel_rfl, fun w' hSw => Or.inl ⟨w', ?_, hSw⟩⟩) ?_
          · go_simp
          simp only [List.set_cons_succ, List.set_cons_zero]
          refine takeG (i := 6) (v := .bool false) rfl rfl (by kernel_rfl) (by kernel_rfl) (by kernel_rfl) (by kernel_rfl) (fun _ _ _ h => h) (Or.inl ⟨by kernel_rfl, fun w' hSw => Or.inl ⟨w', ?_, hSw⟩⟩) ?_
          · go_simp
          simp only [List.set_cons_succ, List.set_cons_zero]
          refine takeG (i := 7) (v := .bool false) rfl rfl (by kernel_rfl) (by kernel_rfl) (by kernel_rfl) (by kernel_rfl) (fun _ _ _ h => h) (Or.inl ⟨by kernel_rfl, fun w' hSw => Or.inl ⟨w', ?_, hSw⟩⟩) ?_
          · go_simp
          simp only [List.set_cons_succ, List.set_cons_zero]
          refine takeG (i := 8) (v := undef) rfl rfl (by kernel_rfl) (by kernel_rfl) (by kernel_rfl) (by kernel_rfl) (fun _ _ _ h => h) (Or.inr ⟨by kernel_rfl, rfl⟩) ?_
          simp only [List.set_cons_succ, List.set_cons_zero]
          refine takeG (i := 9) (v := undef) rfl rfl (by kernel_rfl) (by kernel_rfl) (by kernel_rfl) (by kernel_rfl) (fun _ _ _ h => h) (Or.inr ⟨by kernel_rfl, rfl⟩) ?_
          simp only [List.set_cons_succ, List.set_cons_zero]
          refine takeG (i := 10) (v := .bool false) rfl rfl (by kernel_rfl) (by kernel_rfl) (by kernel_rfl) (by kernel_rfl) (fun _ _ _ h => h) (Or.inl ⟨by kernel_rfl, fun w' hSw => Or.inl ⟨w', ?_, hSw⟩⟩) ?_
          · go_simp
          simp only [List.set_cons_succ, List.set_cons_zero]
          refine takeG (i := 11) (v := .bool false) rfl rfl (by kernel_rfl) (by kernel_rfl) (by kernel_rfl) (by kernel_rfl) (fun _ _ _ h => h) (Or.inl ⟨by kernel_rfl, fun w' hSw => Or.inl ⟨w', ?_, hSw⟩⟩) ?_
          · go_simp
          simp only [List.set_cons_succ, List.set_cons_zero]
          refine takeG (i := 12) (v := .bool false) rfl rfl (by kernel_rfl) (by kernel_rfl) (by kernel_rfl) (by kernel_rfl) (fun _ _ _ h => h) (Or.inl ⟨by kernel_rfl, fun w' hSw => Or.inl ⟨w', ?_, hSw⟩⟩) ?_
          · go_simp
          simp only [List.set_cons_succ, List.set_cons_zero]
          refine takeG (i := 13) (v := .pointer (some ⟨w.heap.size + 1 + 1, 4, none⟩)) rfl rfl (by kernel_rfl) (by kernel_rfl) (by kernel_rfl) (by kernel_rfl) (fun _ _ _ h => h) (Or.inl ⟨by kernel_rfl, fun w' hSw => Or.inl ⟨w', ?_, hSw⟩⟩) ?_
          · go_simp
          simp only [List.set_cons_succ, List.set_cons_zero]
          refine takeG (i := 14) (v := .agg (pcells te tr)) rfl rfl (by kernel_rfl) (by kernel_rfl) (by kernel_rfl) (by kernel_rfl) (fun _ _ _ h => h) (Or.inl ⟨by kernel_rfl, fun w' hSw => Or.inl ⟨w', ?_, hSw⟩⟩) ?_
          · have hl := hos.out w' hSw; go_simp
          simp only [List.set_cons_succ, List.set_cons_zero]
          refine takeG (i := 15) (v := .agg #[.slice a n c, .int .i64 s, .int .i64 b]) rfl rfl (by kernel_rfl) (by kernel_rfl) (by kernel_rfl) (by kernel_rfl) (fun _ _ _ h => h) (Or.inl ⟨by kernel_rfl, fun w' hSw => Or.inl ⟨w', ?_, hSw⟩⟩) ?_
          · have hl := hxs.out w' hSw; go_simp
          simp only [List.set_cons_succ, List.set_cons_zero]
          refine takeG (i := 16) (v := .pointer (some ⟨w.heap.size + 1 + 1, 4, none⟩)) rfl rfl (by kernel_rfl) (by kernel_rfl) (by kernel_rfl) (by kernel_rfl) (fun _ _ _ h => h) (Or.inl ⟨by kernel_rfl, fun w' hSw => Or.inl ⟨w', ?_, hSw⟩⟩) ?_
          · go_simp
          simp only [List.set_cons_succ, List.set_cons_zero]
          refine takeG (i := 17) (v := .pointer (some ⟨w.heap.size + 1 + 1, 4, none⟩)) rfl rfl (by kernel_rfl) (by kernel_rfl) (by kernel_rfl) (by kernel_rfl) (fun _ _ _ h => h) (Or.inl ⟨by kernel_rfl, fun w' hSw => Or.inl ⟨w', ?_, hSw⟩⟩) ?_
          · go_simp
          simp only [List.set_cons_succ, List.set_cons_zero]
          refine takeG (i := 18) (v := .int .i64 te) rfl rfl (by kernel_rfl) (by kernel_rfl) (by kernel_rfl) (by kernel_rfl) (fun _ _ _ h => h) (Or.inl ⟨by kernel_rfl, fun w' hSw => Or.inl ⟨w', ?_, hSw⟩⟩) ?_
          · have hl := hos.out w' hSw; go_simp
          simp only [List.set_cons_succ, List.set_cons_zero]
          refine takeG (i := 19) (v := chv F cap) rfl rfl (by kernel_rfl) (by kernel_rfl) (by kernel_rfl) (by kernel_rfl) (fun _ _ _ h => h) (Or.inl ⟨by kernel_rfl, fun w' hSw => Or.inl ⟨w', ?_, hSw⟩⟩) ?_
          · go_simp
          simp only [List.set_cons_succ, List.set_cons_zero]
          refine takeG (i := 20) (v := .agg (pcells te tr)) rfl rfl (by kernel_rfl) (by kernel_rfl) (by kernel_rfl) (by kernel_rfl) (fun _ _ _ h => h) (Or.inl ⟨by kernel_rfl, fun w' hSw => doesOf rfl (by kernel_rfl) fun K hK => ?_⟩) ?_
          · go_simp
            refine (HCK.out _ hSw).mono ?_
            rintro e w2 ⟨rfl, hb⟩
            exact hK.out _ (hSw.trans (hb.mono hSw.size))
          simp only [List.set_cons_succ, List.set_cons_zero]
          refine takeG (i := 21) (v := .bool false) rfl rfl (by kernel_rfl) (by kernel_rfl) (by kernel_rfl) (by kernel_rfl) (fun _ _ _ h => h) (Or.inl ⟨by kernel_rfl, fun w' hSw => Or.inl ⟨w', ?_, hSw⟩⟩) ?_
          · go_simp
          simp only [List.set_cons_succ, List.set_cons_zero]
          refine takeG (i := 22) (v := .bool false) rfl rfl (by kernel_rfl) (by kernel_rfl) (by kernel_rfl) (by kernel_rfl) (fun _ _ _ h => h) (Or.inl ⟨by kernel_rfl, fun w' hSw => Or.inl ⟨w', ?_, hSw⟩⟩) ?_
          · go_simp
          simp only [List.set_cons_succ, List.set_cons_zero]
          refine doneG (by kernel_rfl) fun w' hSw => ?_
          have HF := hide hSw
          clear hSw
          go_wp2
          go_meet
          exact ⟨rfl, HF⟩
      case rest =>
        obtain ⟨rfl, hbl⟩ := hcut
        obtain ⟨V, rfl⟩ : ∃ x, x = wc := ⟨_, rfl⟩
        have hWV : W.heap.size ≤ V.heap.size := hbl.out.size
        have hls : Hid (∀ w', Below V.heap.size V w' → w'.cell? ⟨w.heap.size + 1, 10, none⟩ = some (.int .i64 S.e) ∧ w'.cell? ⟨w.heap.size + 1, 11, none⟩ = some (.slice a1 n c1) ∧ w'.cell? ⟨w.heap.size + 1, 12, none⟩ = some (.slice a2 n c2)) := fun w' h => (hfin.out w' (hbl.out.trans (h.mono hWV))).1.lc
        have hjs : Hid (∀ w', Below V.heap.size V w' → (Instr.loadAt 64 (.pointer (some ⟨w.heap.size + 1, 0, none⟩))).run Try.prog w' = .ok (.agg S.j.cells) w') := fun w' h => load_js (hfin.out w' (hbl.out.trans (h.mono hWV))).1
        have HV := hide (hrow.out _ hbl.out).1
        have HU := hide (hrow.out _ hbl.out).2.1
        clear hxs hos HRT HCK
        go_upto_region 5 with fail
        go_cut [12] from 68 to 78 (fun x wx => ∃ g v1 d1 v2 d2, x = Value.pointer (some ⟨g, 0, none⟩) ∧ Hid (OAt wx g (lobj S.j S.e (some ⟨v1, 0, none⟩) n d1 (some ⟨v2, 0, none⟩) n d2) ∧ MRow wx v1 n d1 S.bf ∧ MRow wx v2 n d2 S.nw ∧ V.heap.size ≤ g ∧ V.heap.size ≤ v1 ∧ V.heap.size ≤ v2 ∧ v1 ≠ g ∧ v2 ≠ g ∧ v1 ≠ v2 ∧ Below V.heap.size V wx))
        case first =>
          have HB : Hid (Below V.heap.size V V.drew) := hide (Below.refl _ _).drew
          refine wp_region_noPanic ?_
          refine wp_region_held_drew (S := fun w' => Below V.heap.size V w') (by kernel_rfl) HB.out (fun hHeld => ?_)
          replace HV := hide (HV.out.below HB.out)
          replace HU := hide (HU.out.below HB.out)
          generalize V.drew = w0 at HB hHeld HV HU ⊢
          refine take_set (i := 0) (v := .pointer (some ⟨w.heap.size + 1, 0, none⟩)) rfl rfl (by kernel_rfl) (by kernel_rfl) (by kernel_rfl) (fun _ _ _ h => h) (Or.inl ⟨by kernel_rfl, fun w' hSw => ?_⟩) hHeld ?_
          · go_simp
          simp only [List.set_cons_succ, List.set_cons_zero]
          refine take_set (i := 1) (v := .agg S.j.cells) rfl rfl (by kernel_rfl) (by kernel_rfl) (by kernel_rfl) (fun _ _ _ h => h) (Or.inl ⟨by kernel_rfl, fun w' hSw => ?_⟩) hHeld ?_
          · exact run_load_whole 64 (.tmp 68) rfl _ _ rfl (hjs.out w' hSw)
          simp only [List.set_cons_succ, List.set_cons_zero]
          refine take_set (i := 2) (v := .pointer (some ⟨w.heap.size + 1, 10, none⟩)) rfl rfl (by kernel_rfl) (by kernel_rfl) (by kernel_rfl) (fun _ _ _ h => h) (Or.inl ⟨by kernel_rfl, fun w' hSw => ?_⟩) hHeld ?_
          · go_simp
          simp only [List.set_cons_succ, List.set_cons_zero]
          refine take_set (i := 3) (v := .int .i64 S.e) rfl rfl (by kernel_rfl) (by kernel_rfl) (by kernel_rfl) (fun _ _ _ h => h) (Or.inl ⟨by kernel_rfl, fun w' hSw => ?_⟩) hHeld ?_
          · have hl := hls.out w' hSw; go_simp
          simp only [List.set_cons_succ, List.set_cons_zero]
          refine take_set (i := 4) (v := .pointer (some ⟨w.heap.size + 1, 11, none⟩)) rfl rfl (by kernel_rfl) (by kernel_rfl) (by kernel_rfl) (fun _ _ _ h => h) (Or.inl ⟨by kernel_rfl, fun w' hSw => ?_⟩) hHeld ?_
          · go_simp
          simp only [List.set_cons_succ, List.set_cons_zero]
          refine take_set (i := 5) (v := .slice a1 n c1) rfl rfl (by kernel_rfl) (by kernel_rfl) (by kernel_rfl) (fun _ _ _ h => h) (Or.inl ⟨by kernel_rfl, fun w' hSw => ?_⟩) hHeld ?_
          · have hl := hls.out w' hSw; go_simp
          simp only [List.set_cons_succ, List.set_cons_zero]
          refine take_set (i := 7) (v := .pointer (some ⟨w.heap.size + 1, 12, none⟩)) rfl rfl (by kernel_rfl) (by kernel_rfl) (by kernel_rfl) (fun _ _ _ h => h) (Or.inl ⟨by kernel_rfl, fun w' hSw => ?_⟩) hHeld ?_
          · go_simp
          simp only [List.set_cons_succ, List.set_cons_zero]
          refine take_set (i := 8) (v := .slice a2 n c2) rfl rfl (by kernel_rfl) (by kernel_rfl) (by kernel_rfl) (fun _ _ _ h => h) (Or.inl ⟨by kernel_rfl, fun w' hSw => ?_⟩) hHeld ?_
          · have hl := hls.out w' hSw; go_simp
          simp only [List.set_cons_succ, List.set_cons_zero]
          refine wpAnyH_ready (rs := [6, 11]) (by kernel_rfl) (by simp) ?_
          refine AllReadyH.cons (o := _) rfl (fun K hK => ?_) (AllReadyH.cons (o := _) rfl (fun K hK => ?_) (AllReadyH.nil))
          · have hOB := HB.out.size
            refine step_append_bools rfl (.const (.slice none 0 0)) (.tmp 73) 26 rfl w0.heap.size 4 i0 (.bool false) 1 Try.underlying26 hi hz0 hz1 hz2 rfl (.slice none 0 0) 0 [] rfl (World.ownsRow_nil _ _ _ _) a1 n c1 S.bf rfl HV.out (by unfold maxLen; omega) (by omega) (Nat.le_refl _) ?_
            intro v1o d1 wq1 hown hgrow
            rw [Nat.zero_add] at hown ⊢
            rw [List.nil_append] at hown
            obtain ⟨v1, rfl, hge, hM⟩ := MRow.ofOwned hown hn.1
            have hbel : Below w0.heap.size w0 wq1 := (Below.refl _ _).grown hgrow (Nat.le_refl _) (fun j hj => by cases hj)
            have haS : Apart 0 w0 wq1 := Apart.of hbel
            have P1 : Hid (w0.heap.size ≤ v1 ∧ v1 < wq1.heap.size) := hide ⟨hge, hM.lt⟩
            replace HB := hide (HB.out.trans (hbel.mono HB.out.size))
            go_simp
            replace HV := hide (HV.out.below hbel)
            replace HU := hide (HU.out.below hbel)
            have M1 := hide (hM)
            have z1 : Hid (w0.heap.size ≤ wq1.heap.size) := hide haS.size
            refine hK.out _ _ (HB.out) (fun hHeld => ?_)
            clear hK K
            refine wpAnyH_ready (rs := [9, 11]) (by kernel_rfl) (by simp) ?_
            refine AllReadyH.cons (o := _) rfl (fun K hK => ?_) (AllReadyH.cons (o := _) rfl (fun K hK => ?_) (AllReadyH.nil))
            · have hOB := HB.out.size
              refine step_append_bools rfl (.const (.slice none 0 0)) (.tmp 76) 26 rfl wq1.heap.size 4 i0 (.bool false) 1 Try.underlying26 hi hz0 hz1 hz2 rfl (.slice none 0 0) 0 [] rfl (World.ownsRow_nil _ _ _ _) a2 n c2 S.nw rfl HU.out (by unfold maxLen; omega) (by omega) (Nat.le_refl _) ?_
              intro v2o d2 wq2 hown hgrow
              rw [Nat.zero_add] at hown ⊢
              rw [List.nil_append] at hown
              obtain ⟨v2, rfl, hge, hM⟩ := MRow.ofOwned hown hn.1
              have hbel : Below wq1.heap.size wq1 wq2 := (Below.refl _ _).grown hgrow (Nat.le_refl _) (fun j hj => by cases hj)
              have haS : Apart 0 wq1 wq2 := Apart.of hbel
              have P2 : Hid (wq1.heap.size ≤ v2 ∧ v2 < wq2.heap.size) := hide ⟨hge, hM.lt⟩
              replace HB := hide (HB.out.trans (hbel.mono HB.out.size))
              go_simp
              replace HV := hide (HV.out.below hbel)
              replace HU := hide (HU.out.below hbel)
              replace M1 := hide (M1.out.below hbel)
              have M2 := hide (hM)
              have z2 : Hid (wq1.heap.size ≤ wq2.heap.size) := hide haS.size
              refine hK.out _ _ (HB.out) (fun hHeld => ?_)
              clear hK K
              refine take_set (i := 10) (v := .agg (lcells S.j S.e (some ⟨v1, 0, none⟩) n d1 (some ⟨v2, 0, none⟩) n d2)) rfl rfl (by kernel_rfl) (by kernel_rfl) (by kernel_rfl) (fun _ _ _ h => h) (Or.inl ⟨by kernel_rfl, fun w' hSw => ?_⟩) hHeld ?_
              · go_simp
              simp only [List.set_cons_succ, List.set_cons_zero]
              have hbel := below_alloc wq2 (lobj jz 0 none 0 0 none 0 0)
              have HT2 := hide (OAt.new wq2 (lobj jz 0 none 0 0 none 0 0))
              refine wpAnyH_ready (rs := [11]) (by kernel_rfl) (by simp) ?_
              refine AllReadyH.cons (o := _) rfl (fun K hK => ?_) AllReadyH.nil
              go_simp
              refine hK.out _ _ (HB.out.trans (hbel.mono HB.out.size)) (fun hHeld => ?_)
              clear hK K
              have z3 : Hid ((wq2.alloc (lobj jz 0 none 0 0 none 0 0)).heap.size = wq2.heap.size + 1) := hide (by simp)
              generalize wq2.alloc (lobj jz 0 none 0 0 none 0 0) = wq3 at hbel HT2 hHeld z3 ⊢
              replace HV := hide (HV.out.below hbel)
              replace HU := hide (HU.out.below hbel)
              replace M1 := hide (M1.out.below hbel)
              replace M2 := hide (M2.out.below hbel)
              have HT2s : Hid (V.heap.size ≤ wq2.heap.size) := hide HB.out.size
              replace HB := hide (HB.out.trans (hbel.mono HB.out.size))
              clear hbel
              obtain ⟨gT, gTe⟩ : ∃ x, Hid (wq2.heap.size = x) := ⟨_, rfl⟩
              rw [gTe.out] at HT2 HT2s ⊢
              refine wpAnyH_ready (rs := [12]) (by kernel_rfl) (by simp) ?_
              refine AllReadyH.cons (o := _) rfl (fun K hK => ?_) AllReadyH.nil
              obtain ⟨wq4, hrun, hoS, haS⟩ := store_obj (P := Try.prog) (ty := 66) (n := 13) (cs := (lcells S.j S.e (some ⟨v1, 0, none⟩) n d1 (some ⟨v2, 0, none⟩) n d2).toList) infoLS rfl rfl (lcells_one _ _ _ _ _ _ _ _) HT2.out.at_
              have y1 := z1.out
              have y2 := z2.out
              have y3 := z3.out
              have yT := HT2s.out
              have yg := gTe.out
              have y1 := P1.out
              have y2 := P2.out
              refine step_store_at 66 (.tmp 12) (.tmp 78) rfl rfl _ _ rfl rfl wq4 hrun ?_
              have HG := hide ((show OAt wq4 gT (lobj S.j S.e (some ⟨v1, 0, none⟩) n d1 (some ⟨v2, 0, none⟩) n d2) from OAt.of hoS))
              have K1 := hide (M1.out.aside haS (by omega))
              have K2 := hide (M2.out.aside haS (by omega))
              have HQ := hide ((⟨by omega, by omega, by omega, by omega, by omega, by omega⟩ : V.heap.size ≤ gT ∧ V.heap.size ≤ v1 ∧ V.heap.size ≤ v2 ∧ v1 ≠ gT ∧ v2 ≠ gT ∧ v1 ≠ v2))
              have HBB := hide (HB.out.trans (haS.old _ HB.out.size (by omega)))
              refine hK.out _ _ ((HB.out.trans (haS.old _ HB.out.size (by omega)))) (fun hHeld => ?_)
              clear hK K
              refine wpAnyH_done (by kernel_rfl) ?_ _
              refine NoPanic.normal ?_
              go_wp2
              go_meet
              obtain ⟨q1, q2, q3, q4, q5, q6⟩ := HQ.out
              exact ⟨gT, v1, d1, v2, d2, rfl, hide ⟨HG.out, K1.out, K2.out, q1, q2, q3, q4, q5, q6, HBB.out⟩⟩
            · have hbel := below_alloc wq1 (lobj jz 0 none 0 0 none 0 0)
              have HT2 := hide (OAt.new wq1 (lobj jz 0 none 0 0 none 0 0))
              go_simp
              refine hK.out _ _ (HB.out.trans (hbel.mono HB.out.size)) (fun hHeld => ?_)
              clear hK K
              have z2 : Hid ((wq1.alloc (lobj jz 0 none 0 0 none 0 0)).heap.size = wq1.heap.size + 1) := hide (by simp)
              generalize wq1.alloc (lobj jz 0 none 0 0 none 0 0) = wq2 at hbel HT2 hHeld z2 ⊢
              replace HV := hide (HV.out.below hbel)
              replace HU := hide (HU.out.below hbel)
              replace M1 := hide (M1.out.below hbel)
              have HT2s : Hid (V.heap.size ≤ wq1.heap.size) := hide HB.out.size
              replace HB := hide (HB.out.trans (hbel.mono HB.out.size))
              clear hbel
              obtain ⟨gT, gTe⟩ : ∃ x, Hid (wq1.heap.size = x) := ⟨_, rfl⟩
              rw [gTe.out] at HT2 HT2s ⊢
              refine wpAnyH_ready (rs := [9]) (by kernel_rfl) (by simp) ?_
              refine AllReadyH.cons (o := _) rfl (fun K hK => ?_) AllReadyH.nil
              have hOB := HB.out.size
              refine step_append_bools rfl (.const (.slice none 0 0)) (.tmp 76) 26 rfl wq2.heap.size 4 i0 (.bool false) 1 Try.underlying26 hi hz0 hz1 hz2 rfl (.slice none 0 0) 0 [] rfl (World.ownsRow_nil _ _ _ _) a2 n c2 S.nw rfl HU.out (by unfold maxLen; omega) (by omega) (Nat.le_refl _) ?_
              intro v2o d2 wq3 hown hgrow
              rw [Nat.zero_add] at hown ⊢
              rw [List.nil_append] at hown
              obtain ⟨v2, rfl, hge, hM⟩ := MRow.ofOwned hown hn.1
              have hbel : Below wq2.heap.size wq2 wq3 := (Below.refl _ _).grown hgrow (Nat.le_refl _) (fun j hj => by cases hj)
              have haS : Apart 0 wq2 wq3 := Apart.of hbel
              have P2 : Hid (wq2.heap.size ≤ v2 ∧ v2 < wq3.heap.size) := hide ⟨hge, hM.lt⟩
              replace HB := hide (HB.out.trans (hbel.mono HB.out.size))
              go_simp
              replace HV := hide (HV.out.below hbel)
              replace HU := hide (HU.out.below hbel)
              replace M1 := hide (M1.out.below hbel)
              replace HT2 := hide (HT2.out.below hbel)
              have M2 := hide (hM)
              have z3 : Hid (wq2.heap.size ≤ wq3.heap.size) := hide haS.size
              refine hK.out _ _ (HB.out) (fun hHeld => ?_)
              clear hK K
              refine take_set (i := 10) (v := .agg (lcells S.j S.e (some ⟨v1, 0, none⟩) n d1 (some ⟨v2, 0, none⟩) n d2)) rfl rfl (by kernel_rfl) (by kernel_rfl) (by kernel_rfl) (fun _ _ _ h => h) (Or.inl ⟨by kernel_rfl, fun w' hSw => ?_⟩) hHeld ?_
              · go_simp
              simp only [List.set_cons_succ, List.set_cons_zero]
              refine wpAnyH_ready (rs := [12]) (by kernel_rfl) (by simp) ?_
              refine AllReadyH.cons (o := _) rfl (fun K hK => ?_) AllReadyH.nil
              obtain ⟨wq4, hrun, hoS, haS⟩ := store_obj (P := Try.prog) (ty := 66) (n := 13) (cs := (lcells S.j S.e (some ⟨v1, 0, none⟩) n d1 (some ⟨v2, 0, none⟩) n d2).toList) infoLS rfl rfl (lcells_one _ _ _ _ _ _ _ _) HT2.out.at_
              have y1 := z1.out
              have y2 := z2.out
              have y3 := z3.out
              have yT := HT2s.out
              have yg := gTe.out
              have y1 := P1.out
              have y2 := P2.out
              refine step_store_at 66 (.tmp 12) (.tmp 78) rfl rfl _ _ rfl rfl wq4 hrun ?_
              have HG := hide ((show OAt wq4 gT (lobj S.j S.e (some ⟨v1, 0, none⟩) n d1 (some ⟨v2, 0, none⟩) n d2) from OAt.of hoS))
              have K1 := hide (M1.out.aside haS (by omega))
              have K2 := hide (M2.out.aside haS (by omega))
              have HQ := hide ((⟨by omega, by omega, by omega, by omega, by omega, by omega⟩ : V.heap.size ≤ gT ∧ V.heap.size ≤ v1 ∧ V.heap.size ≤ v2 ∧ v1 ≠ gT ∧ v2 ≠ gT ∧ v1 ≠ v2))
              have HBB := hide (HB.out.trans (haS.old _ HB.out.size (by omega)))
              refine hK.out _ _ ((HB.out.trans (haS.old _ HB.out.size (by omega)))) (fun hHeld => ?_)
              clear hK K
              refine wpAnyH_done (by kernel_rfl) ?_ _
              refine NoPanic.normal ?_
              go_wp2
              go_meet
              obtain ⟨q1, q2, q3, q4, q5, q6⟩ := HQ.out
              exact ⟨gT, v1, d1, v2, d2, rfl, hide ⟨HG.out, K1.out, K2.out, q1, q2, q3, q4, q5, q6, HBB.out⟩⟩
          · have hbel := below_alloc w0 (lobj jz 0 none 0 0 none 0 0)
            have HT2 := hide (OAt.new w0 (lobj jz 0 none 0 0 none 0 0))
            go_simp
            refine hK.out _ _ (HB.out.trans (hbel.mono HB.out.size)) (fun hHeld => ?_)
            clear hK K
            have z1 : Hid ((w0.alloc (lobj jz 0 none 0 0 none 0 0)).heap.size = w0.heap.size + 1) := hide (by simp)
            generalize w0.alloc (lobj jz 0 none 0 0 none 0 0) = wq1 at hbel HT2 hHeld z1 ⊢
            replace HV := hide (HV.out.below hbel)
            replace HU := hide (HU.out.below hbel)
            have HT2s : Hid (V.heap.size ≤ w0.heap.size) := hide HB.out.size
            replace HB := hide (HB.out.trans (hbel.mono HB.out.size))
            clear hbel
            obtain ⟨gT, gTe⟩ : ∃ x, Hid (w0.heap.size = x) := ⟨_, rfl⟩
            rw [gTe.out] at HT2 HT2s ⊢
            refine wpAnyH_ready (rs := [6]) (by kernel_rfl) (by simp) ?_
            refine AllReadyH.cons (o := _) rfl (fun K hK => ?_) AllReadyH.nil
            have hOB := HB.out.size
            refine step_append_bools rfl (.const (.slice none 0 0)) (.tmp 73) 26 rfl wq1.heap.size 4 i0 (.bool false) 1 Try.underlying26 hi hz0 hz1 hz2 rfl (.slice none 0 0) 0 [] rfl (World.ownsRow_nil _ _ _ _) a1 n c1 S.bf rfl HV.out (by unfold maxLen; omega) (by omega) (Nat.le_refl _) ?_
            intro v1o d1 wq2 hown hgrow
            rw [Nat.zero_add] at hown ⊢
            rw [List.nil_append] at hown
            obtain ⟨v1, rfl, hge, hM⟩ := MRow.ofOwned hown hn.1
            have hbel : Below wq1.heap.size wq1 wq2 := (Below.refl _ _).grown hgrow (Nat.le_refl _) (fun j hj => by cases hj)
            have haS : Apart 0 wq1 wq2 := Apart.of hbel
            have P1 : Hid (wq1.heap.size ≤ v1 ∧ v1 < wq2.heap.size) := hide ⟨hge, hM.lt⟩
            replace HB := hide (HB.out.trans (hbel.mono HB.out.size))
            go_simp
            replace HV := hide (HV.out.below hbel)
            replace HU := hide (HU.out.below hbel)
            replace HT2 := hide (HT2.out.below hbel)
            have M1 := hide (hM)
            have z2 : Hid (wq1.heap.size ≤ wq2.heap.size) := hide haS.size
            refine hK.out _ _ (HB.out) (fun hHeld => ?_)
            clear hK K
            refine wpAnyH_ready (rs := [9]) (by kernel_rfl) (by simp) ?_
            refine AllReadyH.cons (o := _) rfl (fun K hK => ?_) AllReadyH.nil
            have hOB := HB.out.size
            refine step_append_bools rfl (.const (.slice none 0 0)) (.tmp 76) 26 rfl wq2.heap.size 4 i0 (.bool false) 1 Try.underlying26 hi hz0 hz1 hz2 rfl (.slice none 0 0) 0 [] rfl (World.ownsRow_nil _ _ _ _) a2 n c2 S.nw rfl HU.out (by unfold maxLen; omega) (by omega) (Nat.le_refl _) ?_
            intro v2o d2 wq3 hown hgrow
            rw [Nat.zero_add] at hown ⊢
            rw [List.nil_append] at hown
            obtain ⟨v2, rfl, hge, hM⟩ := MRow.ofOwned hown hn.1
            have hbel : Below wq2.heap.size wq2 wq3 := (Below.refl _ _).grown hgrow (Nat.le_refl _) (fun j hj => by cases hj)
            have haS : Apart 0 wq2 wq3 := Apart.of hbel
            have P2 : Hid (wq2.heap.size ≤ v2 ∧ v2 < wq3.heap.size) := hide ⟨hge, hM.lt⟩
            replace HB := hide (HB.out.trans (hbel.mono HB.out.size))
            go_simp
            replace HV := hide (HV.out.below hbel)
            replace HU := hide (HU.out.below hbel)
            replace HT2 := hide (HT2.out.below hbel)
            replace M1 := hide (M1.out.below hbel)
            have M2 := hide (hM)
            have z3 : Hid (wq2.heap.size ≤ wq3.heap.size) := hide haS.size
            refine hK.out _ _ (HB.out) (fun hHeld => ?_)
            clear hK K
            refine take_set (i := 10) (v := .agg (lcells S.j S.e (some ⟨v1, 0, none⟩) n d1 (some ⟨v2, 0, none⟩) n d2)) rfl rfl (by kernel_rfl) (by kernel_rfl) (by kernel_rfl) (fun _ _ _ h => h) (Or.inl ⟨by kernel_rfl, fun w' hSw => ?_⟩) hHeld ?_
            · go_simp
            simp only [List.set_cons_succ, List.set_cons_zero]
            refine wpAnyH_ready (rs := [12]) (by kernel_rfl) (by simp) ?_
            refine AllReadyH.cons (o := _) rfl (fun K hK => ?_) AllReadyH.nil
            obtain ⟨wq4, hrun, hoS, haS⟩ := store_obj (P := Try.prog) (ty := 66) (n := 13) (cs := (lcells S.j S.e (some ⟨v1, 0, none⟩) n d1 (some ⟨v2, 0, none⟩) n d2).toList) infoLS rfl rfl (lcells_one _ _ _ _ _ _ _ _) HT2.out.at_
            have y1 := z1.out
            have y2 := z2.out
            have y3 := z3.out
            have yT := HT2s.out
            have yg := gTe.out
            have y1 := P1.out
            have y2 := P2.out
            refine step_store_at 66 (.tmp 12) (.tmp 78) rfl rfl _ _ rfl rfl wq4 hrun ?_
            have HG := hide ((show OAt wq4 gT (lobj S.j S.e (some ⟨v1, 0, none⟩) n d1 (some ⟨v2, 0, none⟩) n d2) from OAt.of hoS))
            have K1 := hide (M1.out.aside haS (by omega))
            have K2 := hide (M2.out.aside haS (by omega))
            have HQ := hide ((⟨by omega, by omega, by omega, by omega, by omega, by omega⟩ : V.heap.size ≤ gT ∧ V.heap.size ≤ v1 ∧ V.heap.size ≤ v2 ∧ v1 ≠ gT ∧ v2 ≠ gT ∧ v1 ≠ v2))
            have HBB := hide (HB.out.trans (haS.old _ HB.out.size (by omega)))
            refine hK.out _ _ ((HB.out.trans (haS.old _ HB.out.size (by omega)))) (fun hHeld => ?_)
            clear hK K
            refine wpAnyH_done (by kernel_rfl) ?_ _
            refine NoPanic.normal ?_
            go_wp2
            go_meet
            obtain ⟨q1, q2, q3, q4, q5, q6⟩ := HQ.out
            exact ⟨gT, v1, d1, v2, d2, rfl, hide ⟨HG.out, K1.out, K2.out, q1, q2, q3, q4, q5, q6, HBB.out⟩⟩
        case rest =>
          obtain ⟨g, v1, d1, v2, d2, rfl, hcc⟩ := hcut
          obtain ⟨hg, hm1, hm2, p1, p2, p3, p4, p5, p6, hbV⟩ := hcc.out
          have HG := hide hg
          have HM1 := hide hm1
          have HM2 := hide hm2
          have HB := hide (hbl.out.trans (hbV.mono hWV))
          clear hcc hg hm1 hm2 hbV HV HU hls hjs hbl
          obtain ⟨V5, rfl⟩ : ∃ x, x = wc := ⟨_, rfl⟩
          have o6 : V5.cell? ⟨w.heap.size + 1 + 1, 6, none⟩ = some (.slice a3 l3 c3) := (HO.out.below HB.out).cell 6
          have hgW : W.heap.size ≤ g := by omega
          have h1W : W.heap.size ≤ v1 := by omega
          have h2W : W.heap.size ≤ v2 := by omega
          clear HX HS HO HT HN hz0 hz1 hz2 hi hw1 hw2 hty p1 p2 p3
          cases N
          · obtain rfl : D = true := by simpa using hnd
            go_wp2_with fail
            go_loopw [82] (fun i wr => ∃ k : Nat, i = .int .i64 (k : Int) ∧ k ≤ l3 ∧ Hid (MRow wr v1 n d1 (mark S.bf (who.take k)) ∧ MRow wr v2 n d2 S.nw ∧ OAt wr g (lobj S.j S.e (some ⟨v1, 0, none⟩) n d1 (some ⟨v2, 0, none⟩) n d2) ∧ Below W.heap.size W wr)) (fun i _ => l3 - (intOf i).toNat)
            case atStart => exact ⟨0, rfl, Nat.zero_le _, hide ⟨HM1.out, HM2.out, HG.out, HB.out⟩⟩
            case round =>
              obtain ⟨k, rfl, hk, hI⟩ := hrel
              obtain ⟨hm, hmo, hg, hb⟩ := hI.out
              by_cases hlt : k < l3
              · obtain ⟨xb, xo, rfl, hxb, hxc⟩ := (hrow.out _ hb).2.2.cell k hlt
                have hin2 : 0 ≤ who.getD k 0 ∧ who.getD k 0 < (n : Int) := by
                  rw [List.getD_eq_getElem?_getD, List.getElem?_eq_getElem (by omega)]
                  exact hwho.out _ (List.getElem_mem _)
                have hmt := hide (mark_take S.bf who k (by omega))
                obtain ⟨y, hy⟩ : ∃ y : Nat, who.getD k 0 = (y : Int) := ⟨(who.getD k 0).toNat, by omega⟩
                rw [hy] at hxc hin2 hmt
                have hyn : y < n := by omega
                have hcy := hm.cell y hyn
                have hsf := hm.soft y
                have hl := hg.lc.2.1
                have hs1 : MRow (wr.setCell ⟨v1, y, none⟩ (.bool true)) v1 n d1 (mark S.bf (who.take (k + 1))) := by
                  rw [hmt.out, Int.toNat_natCast]
                  exact hm.set y true hyn
                have A := (Apart.refl v1 wr).set y (.bool true)
                have HI : Hid (MRow (wr.setCell ⟨v1, y, none⟩ (.bool true)) v1 n d1 (mark S.bf (who.take (k + 1))) ∧ MRow (wr.setCell ⟨v1, y, none⟩ (.bool true)) v2 n d2 S.nw ∧ OAt (wr.setCell ⟨v1, y, none⟩ (.bool true)) g (lobj S.j S.e (some ⟨v1, 0, none⟩) n d1 (some ⟨v2, 0, none⟩) n d2) ∧ Below W.heap.size W (wr.setCell ⟨v1, y, none⟩ (.bool true))) :=
                  hide ⟨hs1, hmo.aside A (by omega), hg.apart A (by omega), hb.trans (A.old _ hb.size (by omega))⟩
                clear hI hm hmo hg hb hs1 A hmt hy hin2
                go_wp2
                go_roundw
                case rel => exact ⟨k + 1, by go_num, by omega, HI⟩
                case measure => simp [intOf]; omega
              · obtain rfl : k = l3 := by omega
                rw [List.take_of_length_le (by omega)] at hm
                obtain ⟨hs5, ht5, hn5⟩ := hfin.out _ hb
                have LD := hide (load_obj Try.underlying66 infoLS rfl hg.at_)
                obtain ⟨w6, hrun, ho6, ha6⟩ := store_obj (P := Try.prog) (ty := 66) (n := 13) (cs := (lcells S.j S.e (some ⟨v1, 0, none⟩) n d1 (some ⟨v2, 0, none⟩) n d2).toList) infoLS rfl rfl (lcells_one _ _ _ _ _ _ _ _) ht5.at_
                have HQ1 := hide (hm.aside ha6 (by omega)).row
                have HQ2 := hide (hmo.aside ha6 (by omega)).row
                have HN6 := hide (hn5.trans (ha6.old _ hn5.size (by omega)))
                have hrun' := hide hrun
                have ho6' := hide ho6
                clear hI hm hmo hg hb hs5 ht5 hn5 hrun ho6 ha6
                go_wp2_with (first | refine wpList_load_at 66 (.tmp 12) rfl rfl _ rfl _ LD.out ?_ | refine wpList_store_at 66 (.tmp 8) (.tmp 96) rfl rfl _ _ rfl rfl w6 hrun'.out ?_)
                exact ret_struct2 rfl rfl (show _ = Value.bool true from rfl) ho6'.out Try.underlying66 infoLS rfl ⟨some ⟨v1, 0, none⟩, d1, some ⟨v2, 0, none⟩, d2, rfl, HQ1.out, HQ2.out, fun b off e => by cases e; omega, fun b off e => by cases e; omega, HN6.out⟩
          · go_wp2_with fail
            go_loopw [82] (fun i wr => ∃ k : Nat, i = .int .i64 (k : Int) ∧ k ≤ l3 ∧ Hid (MRow wr v2 n d2 (mark S.nw (who.take k)) ∧ MRow wr v1 n d1 S.bf ∧ OAt wr g (lobj S.j S.e (some ⟨v1, 0, none⟩) n d1 (some ⟨v2, 0, none⟩) n d2) ∧ Below W.heap.size W wr)) (fun i _ => l3 - (intOf i).toNat)
            case atStart => exact ⟨0, rfl, Nat.zero_le _, hide ⟨HM2.out, HM1.out, HG.out, HB.out⟩⟩
            case round =>
              obtain ⟨k, rfl, hk, hI⟩ := hrel
              obtain ⟨hm, hmo, hg, hb⟩ := hI.out
              by_cases hlt : k < l3
              · obtain ⟨xb, xo, rfl, hxb, hxc⟩ := (hrow.out _ hb).2.2.cell k hlt
                have hin2 : 0 ≤ who.getD k 0 ∧ who.getD k 0 < (n : Int) := by
                  rw [List.getD_eq_getElem?_getD, List.getElem?_eq_getElem (by omega)]
                  exact hwho.out _ (List.getElem_mem _)
                have hmt := hide (mark_take S.nw who k (by omega))
                obtain ⟨y, hy⟩ : ∃ y : Nat, who.getD k 0 = (y : Int) := ⟨(who.getD k 0).toNat, by omega⟩
                rw [hy] at hxc hin2 hmt
                have hyn : y < n := by omega
                have hcy := hm.cell y hyn
                have hsf := hm.soft y
                have hl := hg.lc.2.2
                have hs1 : MRow (wr.setCell ⟨v2, y, none⟩ (.bool true)) v2 n d2 (mark S.nw (who.take (k + 1))) := by
                  rw [hmt.out, Int.toNat_natCast]
                  exact hm.set y true hyn
                have A := (Apart.refl v2 wr).set y (.bool true)
                have HI : Hid (MRow (wr.setCell ⟨v2, y, none⟩ (.bool true)) v2 n d2 (mark S.nw (who.take (k + 1))) ∧ MRow (wr.setCell ⟨v2, y, none⟩ (.bool true)) v1 n d1 S.bf ∧ OAt (wr.setCell ⟨v2, y, none⟩ (.bool true)) g (lobj S.j S.e (some ⟨v1, 0, none⟩) n d1 (some ⟨v2, 0, none⟩) n d2) ∧ Below W.heap.size W (wr.setCell ⟨v2, y, none⟩ (.bool true))) :=
                  hide ⟨hs1, hmo.aside A (by omega), hg.apart A (by omega), hb.trans (A.old _ hb.size (by omega))⟩
                clear hI hm hmo hg hb hs1 A hmt hy hin2
                go_wp2
                go_roundw
                case rel => exact ⟨k + 1, by go_num, by omega, HI⟩
                case measure => simp [intOf]; omega
              · obtain rfl : k = l3 := by omega
                rw [List.take_of_length_le (by omega)] at hm
                obtain ⟨hs5, ht5, hn5⟩ := hfin.out _ hb
                have LD := hide (load_obj Try.underlying66 infoLS rfl hg.at_)
                obtain ⟨w6, hrun, ho6, ha6⟩ := store_obj (P := Try.prog) (ty := 66) (n := 13) (cs := (lcells S.j S.e (some ⟨v1, 0, none⟩) n d1 (some ⟨v2, 0, none⟩) n d2).toList) infoLS rfl rfl (lcells_one _ _ _ _ _ _ _ _) ht5.at_
                have HQ1 := hide (hm.aside ha6 (by omega)).row
                have HQ2 := hide (hmo.aside ha6 (by omega)).row
                have HN6 := hide (hn5.trans (ha6.old _ hn5.size (by omega)))
                have hrun' := hide hrun
                have ho6' := hide ho6
                clear hI hm hmo hg hb hs5 ht5 hn5 hrun ho6 ha6
                go_wp2_with (first | refine wpList_load_at 66 (.tmp 12) rfl rfl _ rfl _ LD.out ?_ | refine wpList_store_at 66 (.tmp 8) (.tmp 96) rfl rfl _ _ rfl rfl w6 hrun'.out ?_)
                exact ret_struct2 rfl rfl (show _ = Value.bool true from rfl) ho6'.out Try.underlying66 infoLS rfl ⟨some ⟨v1, 0, none⟩, d1, some ⟨v2, 0, none⟩, d2, rfl, HQ2.out, HQ1.out, fun b off e => by cases e; omega, fun b off e => by cases e; omega, HN6.out⟩
end Go.Proofs.Ytphahkjjmomjcaa

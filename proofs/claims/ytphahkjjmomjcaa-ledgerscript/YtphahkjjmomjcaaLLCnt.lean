/- Contract of psephoslaw10's count, where a vote does not count. -/
import Derived.Test.YtphahkjjmomjcaaLLaw

import Derived.Test.YtphahkjjmomjcaaLCnt

import Derived.Test.YtphahkjjmomjcaaLHelp2

namespace Go.Proofs.Ytphahkjjmomjcaa

open Go.ChangeShapes Go.WideShapes Go.ChangeAt Go.RowKit

set_option linter.unusedVariables false

set_option maxRecDepth 100000 in
set_option maxHeartbeats 8000000 in
theorem count_no (S : LS) (who : List Int) (F : Nat) (cap : Array Value) (f : Int → Int) (a : Option Addr) (n c : Nat) (s b : Int) (a1 : Option Addr) (c1 : Nat) (a2 : Option Addr) (c2 : Nat) (vs vh se sr te tr : Int) (a3 : Option Addr) (l3 c3 : Nat) (w : World)
    (hW : RowIn .i64 w a3 l3 c3 who) (hF : Enters F) (hC : ChainOf w F cap f) (he : I64s S.e) (hs : I64s s) (hvs : I64s vs) (hte : I64s te) (hb : cntB n s f S ⟨vs, vh, se, sr, te, tr, who⟩ = false) :
    Calls Try.prog 33 #[.agg #[.slice a n c, .int .i64 s, .int .i64 b], .agg (lcells S.j S.e a1 n c1 a2 n c2), .agg (vcells vs vh se sr te tr a3 l3 c3), chv F cap] w fun x w' =>
      x = .returned (.tuple #[.agg (lcells S.j S.e a1 n c1 a2 n c2), .bool false]) ∧ Below w.heap.size w w' := by
  have HX := hide ((((OAt.new w (cfg a n c s b)).alloc (lobj S.j S.e a1 n c1 a2 n c2)).alloc (vobj vs vh se sr te tr a3 l3 c3)).alloc (lobj jz 0 none 0 0 none 0 0))
  have HS := hide (((OAt.new (w.alloc (cfg a n c s b)) (lobj S.j S.e a1 n c1 a2 n c2)).alloc (vobj vs vh se sr te tr a3 l3 c3)).alloc (lobj jz 0 none 0 0 none 0 0))
  have HO := hide ((OAt.new ((w.alloc (cfg a n c s b)).alloc (lobj S.j S.e a1 n c1 a2 n c2)) (vobj vs vh se sr te tr a3 l3 c3)).alloc (lobj jz 0 none 0 0 none 0 0))
  have HT := hide (OAt.new (((w.alloc (cfg a n c s b)).alloc (lobj S.j S.e a1 n c1 a2 n c2)).alloc (vobj vs vh se sr te tr a3 l3 c3)) (lobj jz 0 none 0 0 none 0 0))
  have HN := hide (((((Below.refl _ w).alloc (Nat.le_refl _) (cfg a n c s b)).alloc (by simp) (lobj S.j S.e a1 n c1 a2 n c2)).alloc (by simp; omega) (vobj vs vh se sr te tr a3 l3 c3)).alloc (by simp; omega) (lobj jz 0 none 0 0 none 0 0))
  simp only [World.size_alloc] at HS HO HT
  have HWs := hide hW
  have HCs := hide hC
  clear hC hW
  go_enter Try.func33, Try.ntmps33
  go_upto_region 1 with fail
  rw [show (#[Value.bool false, Value.bool false, Value.bool false, Value.bool false, Value.int IntKind.i64 0, Value.int IntKind.u64 0, Value.int IntKind.i64 0, Value.int IntKind.u64 0, Value.int IntKind.i64 0, Value.int IntKind.u64 0, Value.int IntKind.i64 0, Value.slice none 0 0, Value.slice none 0 0] : Array Value) = lcells jz 0 none 0 0 none 0 0 from rfl]
  generalize hW : (((w.alloc (cfg a n c s b)).alloc (lobj S.j S.e a1 n c1 a2 n c2)).alloc (vobj vs vh se sr te tr a3 l3 c3)).alloc (lobj jz 0 none 0 0 none 0 0) = W at HX HS HO HT HN
  have hWs : W.heap.size = w.heap.size + 1 + 1 + 1 + 1 := by rw [← hW]; simp
  clear hW
  obtain ⟨N, hN⟩ : ∃ x, Hid (isNow S ⟨vs, vh, se, sr, te, tr, who⟩ = x) := ⟨_, rfl⟩
  obtain ⟨D, hD⟩ : ∃ x, Hid (isBefore S ⟨vs, vh, se, sr, te, tr, who⟩ = x) := ⟨_, rfl⟩
  obtain ⟨E1, hE1⟩ : ∃ x, Hid (wrap64 (S.e - 1) = x) := ⟨_, rfl⟩
  obtain ⟨o0, o1, o2, o3, o4, o5, o6⟩ : W.cell? ⟨w.heap.size + 1 + 1, 0, none⟩ = some (.int .i64 vs) ∧ W.cell? ⟨w.heap.size + 1 + 1, 1, none⟩ = some (.int .u64 vh) ∧ W.cell? ⟨w.heap.size + 1 + 1, 2, none⟩ = some (.int .i64 se) ∧ W.cell? ⟨w.heap.size + 1 + 1, 3, none⟩ = some (.int .u64 sr) ∧ W.cell? ⟨w.heap.size + 1 + 1, 4, none⟩ = some (.int .i64 te) ∧ W.cell? ⟨w.heap.size + 1 + 1, 5, none⟩ = some (.int .u64 tr) ∧ W.cell? ⟨w.heap.size + 1 + 1, 6, none⟩ = some (.slice a3 l3 c3) :=
    ⟨HO.out.cell 0, HO.out.cell 1, HO.out.cell 2, HO.out.cell 3, HO.out.cell 4, HO.out.cell 5, HO.out.cell 6⟩
  have hj4 : W.cell? ⟨w.heap.size + 1, 4, none⟩ = some (.int .i64 S.j.pe) := HS.out.cell 4
  have hj5 : W.cell? ⟨w.heap.size + 1, 5, none⟩ = some (.int .u64 S.j.pr) := HS.out.cell 5
  have hj6 : W.cell? ⟨w.heap.size + 1, 6, none⟩ = some (.int .i64 S.j.ce) := HS.out.cell 6
  have hj7 : W.cell? ⟨w.heap.size + 1, 7, none⟩ = some (.int .u64 S.j.cr) := HS.out.cell 7
  have hl := HS.out.lc.1
  go_cut [10] from 15 to 28 (fun x wx => x = .bool N ∧ wx = W)
  case first =>
    have hN2 : N = (decide (te = S.e) && decide (se = S.j.ce ∧ sr = S.j.cr)) := hN.out.symm
    clear hN hD hE1 hb
    by_cases e1 : te = S.e
    · by_cases e2 : se = S.j.ce
      · by_cases e3 : sr = S.j.cr
        · rw [decide_eq_true e1, decide_eq_true (And.intro e2 e3)] at hN2
          subst hN2
          subst e1
          subst e2
          subst e3
          go_wp2
          go_meet
          exact ⟨rfl, rfl⟩
        · rw [decide_eq_false (fun h : se = S.j.ce ∧ sr = S.j.cr => e3 h.2), Bool.and_false] at hN2
          subst hN2
          subst e1
          subst e2
          go_wp2
          all_goals go_meet
          all_goals exact ⟨rfl, rfl⟩
      · rw [decide_eq_false (fun h : se = S.j.ce ∧ sr = S.j.cr => e2 h.1), Bool.and_false] at hN2
        subst hN2
        subst e1
        go_wp2
        all_goals go_meet
        all_goals exact ⟨rfl, rfl⟩
    · rw [decide_eq_false e1, Bool.false_and] at hN2
      subst hN2
      go_wp2
      all_goals go_meet
      all_goals exact ⟨rfl, rfl⟩
  case rest =>
    obtain ⟨rfl, hw1⟩ := hcut
    obtain rfl : _ = wc := hw1.symm
    have hwr : IntKind.i64.wrap (S.e - 1) = E1 := by rw [← hE1.out, IntKind.wrap_i64]; unfold wrap64; omega
    go_upto_region 2 with fail
    go_cut [11] from 29 to 43 (fun x wx => x = .bool D ∧ wx = W)
    case first =>
      have hD2 : D = (decide (te = wrap64 (S.e - 1)) && decide (se = S.j.pe ∧ sr = S.j.pr)) := hD.out.symm
      rw [hE1.out] at hD2
      clear hN hD hE1 hb
      by_cases e1 : te = E1
      · by_cases e2 : se = S.j.pe
        · by_cases e3 : sr = S.j.pr
          · rw [decide_eq_true e1, decide_eq_true (And.intro e2 e3)] at hD2
            subst hD2
            subst e1
            subst e2
            subst e3
            go_wp2
            go_meet
            exact ⟨rfl, rfl⟩
          · rw [decide_eq_false (fun h : se = S.j.pe ∧ sr = S.j.pr => e3 h.2), Bool.and_false] at hD2
            subst hD2
            subst e1
            subst e2
            go_wp2
            all_goals go_meet
            all_goals exact ⟨rfl, rfl⟩
        · rw [decide_eq_false (fun h : se = S.j.pe ∧ sr = S.j.pr => e2 h.1), Bool.and_false] at hD2
          subst hD2
          subst e1
          go_wp2
          all_goals go_meet
          all_goals exact ⟨rfl, rfl⟩
      · rw [decide_eq_false e1, Bool.false_and] at hD2
        subst hD2
        go_wp2
        all_goals go_meet
        all_goals exact ⟨rfl, rfl⟩
    case rest =>
      obtain ⟨rfl, hw2⟩ := hcut
      obtain rfl : _ = wc := hw2.symm
      clear o0 o1 o2 o3 o4 o5 o6 hj4 hj5 hj6 hj7 hl hwr hE1
      have hxs : Hid (∀ w', Below W.heap.size W w' → w'.cell? ⟨w.heap.size, 0, none⟩ = some (.slice a n c) ∧ w'.cell? ⟨w.heap.size, 1, none⟩ = some (.int .i64 s) ∧ w'.cell? ⟨w.heap.size, 2, none⟩ = some (.int .i64 b)) := fun w' h => by
        have V := HX.out.below h
        exact ⟨V.cell 0, V.cell 1, V.cell 2⟩
      have hos : Hid (∀ w', Below W.heap.size W w' → w'.cell? ⟨w.heap.size + 1 + 1, 0, none⟩ = some (.int .i64 vs) ∧ w'.cell? ⟨w.heap.size + 1 + 1, 1, none⟩ = some (.int .u64 vh) ∧ w'.cell? ⟨w.heap.size + 1 + 1, 2, none⟩ = some (.int .i64 se) ∧ w'.cell? ⟨w.heap.size + 1 + 1, 3, none⟩ = some (.int .u64 sr) ∧ w'.cell? ⟨w.heap.size + 1 + 1, 4, none⟩ = some (.int .i64 te) ∧ w'.cell? ⟨w.heap.size + 1 + 1, 5, none⟩ = some (.int .u64 tr) ∧ w'.cell? ⟨w.heap.size + 1 + 1, 6, none⟩ = some (.slice a3 l3 c3)) := fun w' h => by
        have V := HO.out.below h
        exact ⟨V.cell 0, V.cell 1, V.cell 2, V.cell 3, V.cell 4, V.cell 5, V.cell 6⟩
      have hin : Hid (∀ w', Below W.heap.size W w' → Below w.heap.size w w') := fun w' h => HN.out.trans (h.mono HN.out.size)
      obtain ⟨R, hR⟩ : ∃ x, Hid ((whoB who (n : Int) && timesB vs se te s) = x) := ⟨_, rfl⟩
      obtain ⟨Y, hY⟩ : ∃ x, Hid (f (stI te s) = x) := ⟨_, rfl⟩
      have HRT : Hid (∀ w', Below W.heap.size W w' → Calls Try.prog 61 #[.agg #[.slice a n c, .int .i64 s, .int .i64 b], .agg (vcells vs vh se sr te tr a3 l3 c3)] w' fun e w'' => e = .returned (.bool R) ∧ Below w'.heap.size w' w'') := fun w' h => by
        rw [← hR.out]
        exact right_any who a n c s b vs vh se sr te tr a3 l3 c3 w' (HWs.out.below (hin.out _ h)) hvs hs
      have HCK : Hid (∀ w', Below W.heap.size W w' → Calls Try.prog 30 #[.agg #[.slice a n c, .int .i64 s, .int .i64 b], .int .i64 te, chv F cap] w' fun e w'' => e = .returned (.agg (pcells te Y)) ∧ Below w'.heap.size w' w'') := fun w' h => by
        rw [← hY.out]
        exact point_law F cap f a n c s b te w' hF (HCs.out.below (hin.out _ h)) hte hs
      have hfin : Hid (∀ w', Below W.heap.size W w' → OAt w' (w.heap.size + 1) (lobj S.j S.e a1 n c1 a2 n c2) ∧ OAt w' (w.heap.size + 1 + 1 + 1) (lobj jz 0 none 0 0 none 0 0) ∧ Below w.heap.size w w') := fun w' h => ⟨HS.out.below h, HT.out.below h, hin.out _ h⟩
      have hb2 : (R && decide (te = lo0 te ∧ tr = Y) && (N || D)) = false := by
        rw [← hR.out, ← hN.out, ← hD.out, ← hY.out]
        exact hb
      have hpos : R = true → te = lo0 te := by
        intro h
        have ht := of_decide_eq_true ((Bool.and_eq_true _ _).mp (hR.out.trans h)).2
        unfold lo0
        rw [if_neg (by omega)]
      go_upto_region 3 with fail
      go_cut [66] from 44 to 66 (fun x wx => x = .bool true ∧ Hid (Below W.heap.size W wx))
      case first =>
        have hb3 := hide hb2
        have hpos' := hide hpos
        clear hR hY hN hD hb hfin hb2 hpos
        cases R
        · refine startG (fun w' => Below W.heap.size W w') 23 (by kernel_rfl) (Below.refl _ _).drew ?_
          refine takeG (i := 0) (v := .agg #[.slice a n c, .int .i64 s, .int .i64 b]) rfl rfl (by kernel_rfl) (by kernel_rfl) (by kernel_rfl) (by kernel_rfl) (fun _ _ _ h => h) (Or.inl ⟨by kernel_rfl, fun w' hSw => Or.inl ⟨w', ?_, hSw⟩⟩) ?_
          · have hl := hxs.out w' hSw; go_simp
          simp only [List.set_cons_succ, List.set_cons_zero]
          refine takeG (i := 1) (v := .agg (vcells vs vh se sr te tr a3 l3 c3)) rfl rfl (by kernel_rfl) (by kernel_rfl) (by kernel_rfl) (by kernel_rfl) (fun _ _ _ h => h) (Or.inl ⟨by kernel_rfl, fun w' hSw => Or.inl ⟨w', ?_, hSw⟩⟩) ?_
          · have hl := hos.out w' hSw; go_simp
          simp only [List.set_cons_succ, List.set_cons_zero]
          refine takeG (i := 2) (v := .bool false) rfl rfl (by kernel_rfl) (by kernel_rfl) (by kernel_rfl) (by kernel_rfl) (fun _ _ _ h => h) (Or.inl ⟨by kernel_rfl, fun w' hSw => doesOf rfl (by kernel_rfl) fun K hK => ?_⟩) ?_
          · go_simp
            refine (HRT.out _ hSw).mono ?_
            rintro e w2 ⟨rfl, hb⟩
            exact hK.out _ (hSw.trans (hb.mono hSw.size))
          simp only [List.set_cons_succ, List.set_cons_zero]
          refine takeG (i := 3) (v := .bool true) rfl rfl (by kernel_rfl) (by kernel_rfl) (by kernel_rfl) (by kernel_rfl) (fun _ _ _ h => h) (Or.inl ⟨by kernel_rfl, fun w' hSw => Or.inl ⟨w', ?_, hSw⟩⟩) ?_
          · go_simp
          simp only [List.set_cons_succ, List.set_cons_zero]
          refine takeG (i := 4) (v := .bool true) rfl rfl (by kernel_rfl) (by kernel_rfl) (by kernel_rfl) (by kernel_rfl) (fun _ _ _ h => h) (Or.inl ⟨by kernel_rfl, fun w' hSw => Or.inl ⟨w', ?_, hSw⟩⟩) ?_
          · go_simp
          simp only [List.set_cons_succ, List.set_cons_zero]
          refine takeG (i := 5) (v := undef) rfl rfl (by kernel_rfl) (by kernel_rfl) (by kernel_rfl) (by kernel_rfl) (fun _ _ _ h => h) (Or.inr ⟨by kernel_rfl, rfl⟩) ?_
          simp only [List.set_cons_succ, List.set_cons_zero]
          refine takeG (i := 6) (v := undef) rfl rfl (by kernel_rfl) (by kernel_rfl) (by kernel_rfl) (by kernel_rfl) (fun _ _ _ h => h) (Or.inr ⟨by kernel_rfl, rfl⟩) ?_
          simp only [List.set_cons_succ, List.set_cons_zero]
          refine takeG (i := 7) (v := undef) rfl rfl (by kernel_rfl) (by kernel_rfl) (by kernel_rfl) (by kernel_rfl) (fun _ _ _ h => h) (Or.inr ⟨by kernel_rfl, rfl⟩) ?_
          simp only [List.set_cons_succ, List.set_cons_zero]
          refine takeG (i := 8) (v := undef) rfl rfl (by kernel_rfl) (by kernel_rfl) (by kernel_rfl) (by kernel_rfl) (fun _ _ _ h => h) (Or.inr ⟨by kernel_rfl, rfl⟩) ?_
          simp only [List.set_cons_succ, List.set_cons_zero]
          refine takeG (i := 9) (v := undef) rfl rfl (by kernel_rfl) (by kernel_rfl) (by kernel_rfl) (by kernel_rfl) (fun _ _ _ h => h) (Or.inr ⟨by kernel_rfl, rfl⟩) ?_
          simp only [List.set_cons_succ, List.set_cons_zero]
          refine takeG (i := 10) (v := undef) rfl rfl (by kernel_rfl) (by kernel_rfl) (by kernel_rfl) (by kernel_rfl) (fun _ _ _ h => h) (Or.inr ⟨by kernel_rfl, rfl⟩) ?_
          simp only [List.set_cons_succ, List.set_cons_zero]
          refine takeG (i := 11) (v := .bool true) rfl rfl (by kernel_rfl) (by kernel_rfl) (by kernel_rfl) (by kernel_rfl) (fun _ _ _ h => h) (Or.inl ⟨by kernel_rfl, fun w' hSw => Or.inl ⟨w', ?_, hSw⟩⟩) ?_
          · go_simp
          simp only [List.set_cons_succ, List.set_cons_zero]
          refine takeG (i := 12) (v := .bool true) rfl rfl (by kernel_rfl) (by kernel_rfl) (by kernel_rfl) (by kernel_rfl) (fun _ _ _ h => h) (Or.inl ⟨by kernel_rfl, fun w' hSw => Or.inl ⟨w', ?_, hSw⟩⟩) ?_
          · go_simp
          simp only [List.set_cons_succ, List.set_cons_zero]
          refine takeG (i := 13) (v := undef) rfl rfl (by kernel_rfl) (by kernel_rfl) (by kernel_rfl) (by kernel_rfl) (fun _ _ _ h => h) (Or.inr ⟨by kernel_rfl, rfl⟩) ?_
          simp only [List.set_cons_succ, List.set_cons_zero]
          refine takeG (i := 14) (v := undef) rfl rfl (by kernel_rfl) (by kernel_rfl) (by kernel_rfl) (by kernel_rfl) (fun _ _ _ h => h) (Or.inr ⟨by kernel_rfl, rfl⟩) ?_
          simp only [List.set_cons_succ, List.set_cons_zero]
          refine takeG (i := 15) (v := undef) rfl rfl (by kernel_rfl) (by kernel_rfl) (by kernel_rfl) (by kernel_rfl) (fun _ _ _ h => h) (Or.inr ⟨by kernel_rfl, rfl⟩) ?_
          simp only [List.set_cons_succ, List.set_cons_zero]
          refine takeG (i := 16) (v := undef) rfl rfl (by kernel_rfl) (by kernel_rfl) (by kernel_rfl) (by kernel_rfl) (fun _ _ _ h => h) (Or.inr ⟨by kernel_rfl, rfl⟩) ?_
          simp only [List.set_cons_succ, List.set_cons_zero]
          refine takeG (i := 17) (v := undef) rfl rfl (by kernel_rfl) (by kernel_rfl) (by kernel_rfl) (by kernel_rfl) (fun _ _ _ h => h) (Or.inr ⟨by kernel_rfl, rfl⟩) ?_
          simp only [List.set_cons_succ, List.set_cons_zero]
          refine takeG (i := 18) (v := undef) rfl rfl (by kernel_rfl) (by kernel_rfl) (by kernel_rfl) (by kernel_rfl) (fun _ _ _ h => h) (Or.inr ⟨by kernel_rfl, rfl⟩) ?_
          simp only [List.set_cons_succ, List.set_cons_zero]
          refine takeG (i := 19) (v := undef) rfl rfl (by kernel_rfl) (by kernel_rfl) (by kernel_rfl) (by kernel_rfl) (fun _ _ _ h => h) (Or.inr ⟨by kernel_rfl, rfl⟩) ?_
          simp only [List.set_cons_succ, List.set_cons_zero]
          refine takeG (i := 20) (v := undef) rfl rfl (by kernel_rfl) (by kernel_rfl) (by kernel_rfl) (by kernel_rfl) (fun _ _ _ h => h) (Or.inr ⟨by kernel_rfl, rfl⟩) ?_
          simp only [List.set_cons_succ, List.set_cons_zero]
          refine takeG (i := 21) (v := undef) rfl rfl (by kernel_rfl) (by kernel_rfl) (by kernel_rfl) (by kernel_rfl) (fun _ _ _ h => h) (Or.inr ⟨by kernel_rfl, rfl⟩) ?_
          simp only [List.set_cons_succ, List.set_cons_zero]
          refine takeG (i := 22) (v := .bool true) rfl rfl (by kernel_rfl) (by kernel_rfl) (by kernel_rfl) (by kernel_rfl) (fun _ _ _ h => h) (Or.inl ⟨by kernel_rfl, fun w' hSw => Or.inl ⟨w', ?_, hSw⟩⟩) ?_
          · go_simp
          simp only [List.set_cons_succ, List.set_cons_zero]
          refine doneG (by kernel_rfl) fun w' hSw => ?_
          have HF := hide hSw
          clear hSw
          go_wp2
          go_meet
          exact ⟨rfl, HF⟩
        · by_cases hp : tr = Y
          · have hte := hpos'.out rfl
            have hnd : N = false ∧ D = false := by
              have h := hb3.out
              rw [decide_eq_true (And.intro hte hp)] at h
              simpa using h
            obtain ⟨rfl, rfl⟩ := hnd
            clear hb3 hpos' hte hp
            refine startG (fun w' => Below W.heap.size W w') 23 (by kernel_rfl) (Below.refl _ _).drew ?_
            refine takeG (i := 0) (v := .agg #[.slice a n c, .int .i64 s, .int .i64 b]) rfl rfl (by kernel_rfl) (by kernel_rfl) (by kernel_rfl) (by kernel_rfl) (fun _ _ _ h => h) (Or.inl ⟨by kernel_rfl, fun w' hSw => Or.inl ⟨w', ?_, hSw⟩⟩) ?_
            · have hl := hxs.out w' hSw; go_simp
            simp only [List.set_cons_succ, List.set_cons_zero]
            refine takeG (i := 1) (v := .agg (vcells vs vh se sr te tr a3 l3 c3)) rfl rfl (by kernel_rfl) (by kernel_rfl) (by kernel_rfl) (by kernel_rfl) (fun _ _ _ h => h) (Or.inl ⟨by kernel_rfl, fun w' hSw => Or.inl ⟨w', ?_, hSw⟩⟩) ?_
            · have hl := hos.out w' hSw; go_simp
            simp only [List.set_cons_succ, List.set_cons_zero]
            refine takeG (i := 2) (v := .bool true) rfl rfl (by kernel_rfl) (by kernel_rfl) (by kernel_rfl) (by kernel_rfl) (fun _ _ _ h => h) (Or.inl ⟨by kernel_rfl, fun w' hSw => doesOf rfl (by kernel_rfl) fun K hK => ?_⟩) ?_
            · go_simp
              refine (HRT.out _ hSw).mono ?_
              rintro e w2 ⟨rfl, hb⟩
              exact hK.out _ (hSw.trans (hb.mono hSw.size))
            simp only [List.set_cons_succ, List.set_cons_zero]
            refine takeG (i := 3) (v := .bool false) rfl rfl (by kernel_rfl) (by kernel_rfl) (by kernel_rfl) (by kernel_rfl) (fun _ _ _ h => h) (Or.inl ⟨by kernel_rfl, fun w' hSw => Or.inl ⟨w', ?_, hSw⟩⟩) ?_
            · go_simp
            simp only [List.set_cons_succ, List.set_cons_zero]
            refine takeG (i := 4) (v := .bool false) rfl rfl (by kernel_rfl) (by kernel_rfl) (by kernel_rfl) (by kernel_rfl) (fun _ _ _ h => h) (Or.inl ⟨by kernel_rfl, fun w' hSw => Or.inl ⟨w', ?_, hSw⟩⟩) ?_
            · go_simp
            simp only [List.set_cons_succ, List.set_cons_zero]
            refine takeG (i := 5) (v := .bool false) rfl rfl (by kernel_rfl) (by kernel_rfl) (by kernel_rfl) (by kernel_rfl) (fun _ _ _ h => h) (Or.inl ⟨by kernel_rfl, fun w' hSw => Or.inl ⟨w', ?_, hSw⟩⟩) ?_
            · go_simp
            simp only [List.set_cons_succ, List.set_cons_zero]
            refine takeG (i := 6) (v := .bool true) rfl rfl (by kernel_rfl) (by kernel_rfl) (by kernel_rfl) (by kernel_rfl) (fun _ _ _ h => h) (Or.inl ⟨by kernel_rfl, fun w' hSw => Or.inl ⟨w', ?_, hSw⟩⟩) ?_
            · go_simp
            simp only [List.set_cons_succ, List.set_cons_zero]
            refine takeG (i := 7) (v := .bool true) rfl rfl (by kernel_rfl) (by kernel_rfl) (by kernel_rfl) (by kernel_rfl) (fun _ _ _ h => h) (Or.inl ⟨by kernel_rfl, fun w' hSw => Or.inl ⟨w', ?_, hSw⟩⟩) ?_
            · go_simp
            simp only [List.set_cons_succ, List.set_cons_zero]
            refine takeG (i := 8) (v := .bool false) rfl rfl (by kernel_rfl) (by kernel_rfl) (by kernel_rfl) (by kernel_rfl) (fun _ _ _ h => h) (Or.inl ⟨by kernel_rfl, fun w' hSw => Or.inl ⟨w', ?_, hSw⟩⟩) ?_
            · go_simp
            simp only [List.set_cons_succ, List.set_cons_zero]
            refine takeG (i := 9) (v := .bool true) rfl rfl (by kernel_rfl) (by kernel_rfl) (by kernel_rfl) (by kernel_rfl) (fun _ _ _ h => h) (Or.inl ⟨by kernel_rfl, fun w' hSw => Or.inl ⟨w', ?_, hSw⟩⟩) ?_
            · go_simp
            simp only [List.set_cons_succ, List.set_cons_zero]
            refine takeG (i := 10) (v := .bool true) rfl rfl (by kernel_rfl) (by kernel_rfl) (by kernel_rfl) (by kernel_rfl) (fun _ _ _ h => h) (Or.inl ⟨by kernel_rfl, fun w' hSw => Or.inl ⟨w', ?_, hSw⟩⟩) ?_
            · go_simp
            simp only [List.set_cons_succ, List.set_cons_zero]
            refine takeG (i := 11) (v := .bool true) rfl rfl (by kernel_rfl) (by kernel_rfl) (by kernel_rfl) (by kernel_rfl) (fun _ _ _ h => h) (Or.inl ⟨by kernel_rfl, fun w' hSw => Or.inl ⟨w', ?_, hSw⟩⟩) ?_
            · go_simp
            simp only [List.set_cons_succ, List.set_cons_zero]
            refine takeG (i := 12) (v := .bool true) rfl rfl (by kernel_rfl) (by kernel_rfl) (by kernel_rfl) (by kernel_rfl) (fun _ _ _ h => h) (Or.inl ⟨by kernel_rfl, fun w' hSw => Or.inl ⟨w', ?_, hSw⟩⟩) ?_
            · go_simp
            simp only [List.set_cons_succ, List.set_cons_zero]
            refine takeG (i := 13) (v := undef) rfl rfl (by kernel_rfl) (by kernel_rfl) (by kernel_rfl) (by kernel_rfl) (fun _ _ _ h => h) (Or.inr ⟨by kernel_rfl, rfl⟩) ?_
            simp only [List.set_cons_succ, List.set_cons_zero]
            refine takeG (i := 14) (v := undef) rfl rfl (by kernel_rfl) (by kernel_rfl) (by kernel_rfl) (by kernel_rfl) (fun _ _ _ h => h) (Or.inr ⟨by kernel_rfl, rfl⟩) ?_
            simp only [List.set_cons_succ, List.set_cons_zero]
            refine takeG (i := 15) (v := undef) rfl rfl (by kernel_rfl) (by kernel_rfl) (by kernel_rfl) (by kernel_rfl) (fun _ _ _ h => h) (Or.inr ⟨by kernel_rfl, rfl⟩) ?_
            simp only [List.set_cons_succ, List.set_cons_zero]
            refine takeG (i := 16) (v := undef) rfl rfl (by kernel_rfl) (by kernel_rfl) (by kernel_rfl) (by kernel_rfl) (fun _ _ _ h => h) (Or.inr ⟨by kernel_rfl, rfl⟩) ?_
            simp only [List.set_cons_succ, List.set_cons_zero]
            refine takeG (i := 17) (v := undef) rfl rfl (by kernel_rfl) (by kernel_rfl) (by kernel_rfl) (by kernel_rfl) (fun _ _ _ h => h) (Or.inr ⟨by kernel_rfl, rfl⟩) ?_
            simp only [List.set_cons_succ, List.set_cons_zero]
            refine takeG (i := 18) (v := undef) rfl rfl (by kernel_rfl) (by kernel_rfl) (by kernel_rfl) (by kernel_rfl) (fun _ _ _ h => h) (Or.inr ⟨by kernel_rfl, rfl⟩) ?_
            simp only [List.set_cons_succ, List.set_cons_zero]
            refine takeG (i := 19) (v := undef) rfl rfl (by kernel_rfl) (by kernel_rfl) (by kernel_rfl) (by kernel_rfl) (fun _ _ _ h => h) (Or.inr ⟨by kernel_rfl, rfl⟩) ?_
            simp only [List.set_cons_succ, List.set_cons_zero]
            refine takeG (i := 20) (v := undef) rfl rfl (by kernel_rfl) (by kernel_rfl) (by kernel_rfl) (by kernel_rfl) (fun _ _ _ h => h) (Or.inr ⟨by kernel_rfl, rfl⟩) ?_
            simp only [List.set_cons_succ, List.set_cons_zero]
            refine takeG (i := 21) (v := undef) rfl rfl (by kernel_rfl) (by kernel_rfl) (by kernel_rfl) (by kernel_rfl) (fun _ _ _ h => h) (Or.inr ⟨by kernel_rfl, rfl⟩) ?_
            simp only [List.set_cons_succ, List.set_cons_zero]
            refine takeG (i := 22) (v := .bool true) rfl rfl (by kernel_rfl) (by kernel_rfl) (by kernel_rfl) (by kernel_rfl) (fun _ _ _ h => h) (Or.inl ⟨by kernel_rfl, fun w' hSw => Or.inl ⟨w', ?_, hSw⟩⟩) ?_
            · go_simp
            simp only [List.set_cons_succ, List.set_cons_zero]
            refine doneG (by kernel_rfl) fun w' hSw => ?_
            have HF := hide hSw
            clear hSw
            go_wp2
            go_meet
            exact ⟨rfl, HF⟩
          · have hpn : Hid (tr ≠ Y) := hp
            clear hb3 hpos' hp
            cases N
            · cases D
              · refine startG (fun w' => Below W.heap.size W w') 23 (by kernel_rfl) (Below.refl _ _).drew ?_
                refine takeG (i := 0) (v := .agg #[.slice a n c, .int .i64 s, .int .i64 b]) rfl rfl (by kernel_rfl) (by kernel_rfl) (by kernel_rfl) (by kernel_rfl) (fun _ _ _ h => h) (Or.inl ⟨by kernel_rfl, fun w' hSw => Or.inl ⟨w', ?_, hSw⟩⟩) ?_
                · have hl := hxs.out w' hSw; go_simp
                simp only [List.set_cons_succ, List.set_cons_zero]
                refine takeG (i := 1) (v := .agg (vcells vs vh se sr te tr a3 l3 c3)) rfl rfl (by kernel_rfl) (by kernel_rfl) (by kernel_rfl) (by kernel_rfl) (fun _ _ _ h => h) (Or.inl ⟨by kernel_rfl, fun w' hSw => Or.inl ⟨w', ?_, hSw⟩⟩) ?_
                · have hl := hos.out w' hSw; go_simp
                simp only [List.set_cons_succ, List.set_cons_zero]
                refine takeG (i := 2) (v := .bool true) rfl rfl (by kernel_rfl) (by kernel_rfl) (by kernel_rfl) (by kernel_rfl) (fun _ _ _ h => h) (Or.inl ⟨by kernel_rfl, fun w' hSw => doesOf rfl (by kernel_rfl) fun K hK => ?_⟩) ?_
                · go_simp
                  refine (HRT.out _ hSw).mono ?_
                  rintro e w2 ⟨rfl, hb⟩
                  exact hK.out _ (hSw.trans (hb.mono hSw.size))
                simp only [List.set_cons_succ, List.set_cons_zero]
                refine takeG (i := 3) (v := .bool false) rfl rfl (by kernel_rfl) (by kernel_rfl) (by kernel_rfl) (by kernel_rfl) (fun _ _ _ h => h) (Or.inl ⟨by kernel_rfl, fun w' hSw => Or.inl ⟨w', ?_, hSw⟩⟩) ?_
                · go_simp
                simp only [List.set_cons_succ, List.set_cons_zero]
                refine takeG (i := 4) (v := .bool false) rfl rfl (by kernel_rfl) (by kernel_rfl) (by kernel_rfl) (by kernel_rfl) (fun _ _ _ h => h) (Or.inl ⟨by kernel_rfl, fun w' hSw => Or.inl ⟨w', ?_, hSw⟩⟩) ?_
                · go_simp
                simp only [List.set_cons_succ, List.set_cons_zero]
                refine takeG (i := 5) (v := .bool false) rfl rfl (by kernel_rfl) (by kernel_rfl) (by kernel_rfl) (by kernel_rfl) (fun _ _ _ h => h) (Or.inl ⟨by kernel_rfl, fun w' hSw => Or.inl ⟨w', ?_, hSw⟩⟩) ?_
                · go_simp
                simp only [List.set_cons_succ, List.set_cons_zero]
                refine takeG (i := 6) (v := .bool true) rfl rfl (by kernel_rfl) (by kernel_rfl) (by kernel_rfl) (by kernel_rfl) (fun _ _ _ h => h) (Or.inl ⟨by kernel_rfl, fun w' hSw => Or.inl ⟨w', ?_, hSw⟩⟩) ?_
                · go_simp
                simp only [List.set_cons_succ, List.set_cons_zero]
                refine takeG (i := 7) (v := .bool true) rfl rfl (by kernel_rfl) (by kernel_rfl) (by kernel_rfl) (by kernel_rfl) (fun _ _ _ h => h) (Or.inl ⟨by kernel_rfl, fun w' hSw => Or.inl ⟨w', ?_, hSw⟩⟩) ?_
                · go_simp
                simp only [List.set_cons_succ, List.set_cons_zero]
                refine takeG (i := 8) (v := .bool false) rfl rfl (by kernel_rfl) (by kernel_rfl) (by kernel_rfl) (by kernel_rfl) (fun _ _ _ h => h) (Or.inl ⟨by kernel_rfl, fun w' hSw => Or.inl ⟨w', ?_, hSw⟩⟩) ?_
                · go_simp
                simp only [List.set_cons_succ, List.set_cons_zero]
                refine takeG (i := 9) (v := .bool true) rfl rfl (by kernel_rfl) (by kernel_rfl) (by kernel_rfl) (by kernel_rfl) (fun _ _ _ h => h) (Or.inl ⟨by kernel_rfl, fun w' hSw => Or.inl ⟨w', ?_, hSw⟩⟩) ?_
                · go_simp
                simp only [List.set_cons_succ, List.set_cons_zero]
                refine takeG (i := 10) (v := .bool true) rfl rfl (by kernel_rfl) (by kernel_rfl) (by kernel_rfl) (by kernel_rfl) (fun _ _ _ h => h) (Or.inl ⟨by kernel_rfl, fun w' hSw => Or.inl ⟨w', ?_, hSw⟩⟩) ?_
                · go_simp
                simp only [List.set_cons_succ, List.set_cons_zero]
                refine takeG (i := 11) (v := .bool true) rfl rfl (by kernel_rfl) (by kernel_rfl) (by kernel_rfl) (by kernel_rfl) (fun _ _ _ h => h) (Or.inl ⟨by kernel_rfl, fun w' hSw => Or.inl ⟨w', ?_, hSw⟩⟩) ?_
                · go_simp
                simp only [List.set_cons_succ, List.set_cons_zero]
                refine takeG (i := 12) (v := .bool true) rfl rfl (by kernel_rfl) (by kernel_rfl) (by kernel_rfl) (by kernel_rfl) (fun _ _ _ h => h) (Or.inl ⟨by kernel_rfl, fun w' hSw => Or.inl ⟨w', ?_, hSw⟩⟩) ?_
                · go_simp
                simp only [List.set_cons_succ, List.set_cons_zero]
                refine takeG (i := 13) (v := undef) rfl rfl (by kernel_rfl) (by kernel_rfl) (by kernel_rfl) (by kernel_rfl) (fun _ _ _ h => h) (Or.inr ⟨by kernel_rfl, rfl⟩) ?_
                simp only [List.set_cons_succ, List.set_cons_zero]
                refine takeG (i := 14) (v := undef) rfl rfl (by kernel_rfl) (by kernel_rfl) (by kernel_rfl) (by kernel_rfl) (fun _ _ _ h => h) (Or.inr ⟨by kernel_rfl, rfl⟩) ?_
                simp only [List.set_cons_succ, List.set_cons_zero]
                refine takeG (i := 15) (v := undef) rfl rfl (by kernel_rfl) (by kernel_rfl) (by kernel_rfl) (by kernel_rfl) (fun _ _ _ h => h) (Or.inr ⟨by kernel_rfl, rfl⟩) ?_
                simp only [List.set_cons_succ, List.set_cons_zero]
                refine takeG (i := 16) (v := undef) rfl rfl (by kernel_rfl) (by kernel_rfl) (by kernel_rfl) (by kernel_rfl) (fun _ _ _ h => h) (Or.inr ⟨by kernel_rfl, rfl⟩) ?_
                simp only [List.set_cons_succ, List.set_cons_zero]
                refine takeG (i := 17) (v := undef) rfl rfl (by kernel_rfl) (by kernel_rfl) (by kernel_rfl) (by kernel_rfl) (fun _ _ _ h => h) (Or.inr ⟨by kernel_rfl, rfl⟩) ?_
                simp only [List.set_cons_succ, List.set_cons_zero]
                refine takeG (i := 18) (v := undef) rfl rfl (by kernel_rfl) (by kernel_rfl) (by kernel_rfl) (by kernel_rfl) (fun _ _ _ h => h) (Or.inr ⟨by kernel_rfl, rfl⟩) ?_
                simp only [List.set_cons_succ, List.set_cons_zero]
                refine takeG (i := 19) (v := undef) rfl rfl (by kernel_rfl) (by kernel_rfl) (by kernel_rfl) (by kernel_rfl) (fun _ _ _ h => h) (Or.inr ⟨by kernel_rfl, rfl⟩) ?_
                simp only [List.set_cons_succ, List.set_cons_zero]
                refine takeG (i := 20) (v := undef) rfl rfl (by kernel_rfl) (by kernel_rfl) (by kernel_rfl) (by kernel_rfl) (fun _ _ _ h => h) (Or.inr ⟨by kernel_rfl, rfl⟩) ?_
                simp only [List.set_cons_succ, List.set_cons_zero]
                refine takeG (i := 21) (v := undef) rfl rfl (by kernel_rfl) (by kernel_rfl) (by kernel_rfl) (by kernel_rfl) (fun _ _ _ h => h) (Or.inr ⟨by kernel_rfl, rfl⟩) ?_
                simp only [List.set_cons_succ, List.set_cons_zero]
                refine takeG (i := 22) (v := .bool true) rfl rfl (by kernel_rfl) (by kernel_rfl) (by kernel_rfl) (by kernel_rfl) (fun _ _ _ h => h) (Or.inl ⟨by kernel_rfl, fun w' hSw => Or.inl ⟨w', ?_, hSw⟩⟩) ?_
                · go_simp
                simp only [List.set_cons_succ, List.set_cons_zero]
                refine doneG (by kernel_rfl) fun w' hSw => ?_
                have HF := hide hSw
                clear hSw
                go_wp2
                go_meet
                exact ⟨rfl, HF⟩
              · refine startG (fun w' => Below W.heap.size W w') 23 (by kernel_rfl) (Below.refl _ _).drew ?_
                refine takeG (i := 0) (v := .agg #[.slice a n c, .int .i64 s, .int .i64 b]) rfl rfl (by kernel_rfl) (by kernel_rfl) (by kernel_rfl) (by kernel_rfl) (fun _ _ _ h => h) (Or.inl ⟨by kernel_rfl, fun w' hSw => Or.inl ⟨w', ?_, hSw⟩⟩) ?_
                · have hl := hxs.out w' hSw; go_simp
                simp only [List.set_cons_succ, List.set_cons_zero]
                refine takeG (i := 1) (v := .agg (vcells vs vh se sr te tr a3 l3 c3)) rfl rfl (by kernel_rfl) (by kernel_rfl) (by kernel_rfl) (by kernel_rfl) (fun _ _ _ h => h) (Or.inl ⟨by kernel_rfl, fun w' hSw => Or.inl ⟨w', ?_, hSw⟩⟩) ?_
                · have hl := hos.out w' hSw; go_simp
                simp only [List.set_cons_succ, List.set_cons_zero]
                refine takeG (i := 2) (v := .bool true) rfl rfl (by kernel_rfl) (by kernel_rfl) (by kernel_rfl) (by kernel_rfl) (fun _ _ _ h => h) (Or.inl ⟨by kernel_rfl, fun w' hSw => doesOf rfl (by kernel_rfl) fun K hK => ?_⟩) ?_
                · go_simp
                  refine (HRT.out _ hSw).mono ?_
                  rintro e w2 ⟨rfl, hb⟩
                  exact hK.out _ (hSw.trans (hb.mono hSw.size))
                simp only [List.set_cons_succ, List.set_cons_zero]
                refine takeG (i := 3) (v := .bool false) rfl rfl (by kernel_rfl) (by kernel_rfl) (by kernel_rfl) (by kernel_rfl) (fun _ _ _ h => h) (Or.inl ⟨by kernel_rfl, fun w' hSw => Or.inl ⟨w', ?_, hSw⟩⟩) ?_
                · go_simp
                simp only [List.set_cons_succ, List.set_cons_zero]
                refine takeG (i := 4) (v := .bool false) rfl rfl (by kernel_rfl) (by kernel_rfl) (by kernel_rfl) (by kernel_rfl) (fun _ _ _ h => h) (Or.inl ⟨by kernel_rfl, fun w' hSw => Or.inl ⟨w', ?_, hSw⟩⟩) ?_
                · go_simp
                simp only [List.set_cons_succ, List.set_cons_zero]
                refine takeG (i := 5) (v := .bool false) rfl rfl (by kernel_rfl) (by kernel_rfl) (by kernel_rfl) (by kernel_rfl) (fun _ _ _ h => h) (Or.inl ⟨by kernel_rfl, fun w' hSw => Or.inl ⟨w', ?_, hSw⟩⟩) ?_
                · go_simp
                simp only [List.set_cons_succ, List.set_cons_zero]
                refine takeG (i := 6) (v := .bool true) rfl rfl (by kernel_rfl) (by kernel_rfl) (by kernel_rfl) (by kernel_rfl) (fun _ _ _ h => h) (Or.inl ⟨by kernel_rfl, fun w' hSw => Or.inl ⟨w', ?_, hSw⟩⟩) ?_
                · go_simp
                simp only [List.set_cons_succ, List.set_cons_zero]
                refine takeG (i := 7) (v := .bool true) rfl rfl (by kernel_rfl) (by kernel_rfl) (by kernel_rfl) (by kernel_rfl) (fun _ _ _ h => h) (Or.inl ⟨by kernel_rfl, fun w' hSw => Or.inl ⟨w', ?_, hSw⟩⟩) ?_
                · go_simp
                simp only [List.set_cons_succ, List.set_cons_zero]
                refine takeG (i := 8) (v := .bool true) rfl rfl (by kernel_rfl) (by kernel_rfl) (by kernel_rfl) (by kernel_rfl) (fun _ _ _ h => h) (Or.inl ⟨by kernel_rfl, fun w' hSw => Or.inl ⟨w', ?_, hSw⟩⟩) ?_
                · go_simp
                simp only [List.set_cons_succ, List.set_cons_zero]
                refine takeG (i := 9) (v := .bool false) rfl rfl (by kernel_rfl) (by kernel_rfl) (by kernel_rfl) (by kernel_rfl) (fun _ _ _ h => h) (Or.inl ⟨by kernel_rfl, fun w' hSw => Or.inl ⟨w', ?_, hSw⟩⟩) ?_
                · go_simp
                simp only [List.set_cons_succ, List.set_cons_zero]
                refine takeG (i := 10) (v := .bool false) rfl rfl (by kernel_rfl) (by kernel_rfl) (by kernel_rfl) (by kernel_rfl) (fun _ _ _ h => h) (Or.inl ⟨by kernel_rfl, fun w' hSw => Or.inl ⟨w', ?_, hSw⟩⟩) ?_
                · go_simp
                simp only [List.set_cons_succ, List.set_cons_zero]
                refine takeG (i := 11) (v := .bool false) rfl rfl (by kernel_rfl) (by kernel_rfl) (by kernel_rfl) (by kernel_rfl) (fun _ _ _ h => h) (Or.inl ⟨by kernel_rfl, fun w' hSw => Or.inl ⟨w', ?_, hSw⟩⟩) ?_
                · go_simp
                simp only [List.set_cons_succ, List.set_cons_zero]
                refine takeG (i := 12) (v := .bool false) rfl rfl (by kernel_rfl) (by kernel_rfl) (by kernel_rfl) (by kernel_rfl) (fun _ _ _ h => h) (Or.inl ⟨by kernel_rfl, fun w' hSw => Or.inl ⟨w', ?_, hSw⟩⟩) ?_
                · go_simp
                simp only [List.set_cons_succ, List.set_cons_zero]
                refine takeG (i := 13) (v := .pointer (some ⟨w.heap.size + 1 + 1, 4, none⟩)) rfl rfl (by kernel_rfl) (by kernel_rfl) (by kernel_rfl) (by kernel_rfl) (fun _ _ _ h => h) (Or.inl ⟨by kernel_rfl, fun w' hSw => Or.inl ⟨w', ?_, hSw⟩⟩) ?_
                · go_simp
                simp only [List.set_cons_succ, List.set_cons_zero]
                refine takeG (i := 14) (v := .agg (pcells te tr)) rfl rfl (by kernel_rfl) (by kernel_rfl) (by kernel_rfl) (by kernel_rfl) (fun _ _ _ h => h) (Or.inl ⟨by kernel_rfl, fun w' hSw => Or.inl ⟨w', ?_, hSw⟩⟩) ?_
                · have hl := hos.out w' hSw; go_simp
                simp only [List.set_cons_succ, List.set_cons_zero]
                refine takeG (i := 15) (v := .agg #[.slice a n c, .int .i64 s, .int .i64 b]) rfl rfl (by kernel_rfl) (by kernel_rfl) (by kernel_rfl) (by kernel_rfl) (fun _ _ _ h => h) (Or.inl ⟨by kernel_rfl, fun w' hSw => Or.inl ⟨w', ?_, hSw⟩⟩) ?_
                · have hl := hxs.out w' hSw; go_simp
                simp only [List.set_cons_succ, List.set_cons_zero]
                refine takeG (i := 16) (v := .pointer (some ⟨w.heap.size + 1 + 1, 4, none⟩)) rfl rfl (by kernel_rfl) (by kernel_rfl) (by kernel_rfl) (by kernel_rfl) (fun _ _ _ h => h) (Or.inl ⟨by kernel_rfl, fun w' hSw => Or.inl ⟨w', ?_, hSw⟩⟩) ?_
                · go_simp
                simp only [List.set_cons_succ, List.set_cons_zero]
                refine takeG (i := 17) (v := .pointer (some ⟨w.heap.size + 1 + 1, 4, none⟩)) rfl rfl (by kernel_rfl) (by kernel_rfl) (by kernel_rfl) (by kernel_rfl) (fun _ _ _ h => h) (Or.inl ⟨by kernel_rfl, fun w' hSw => Or.inl ⟨w', ?_, hSw⟩⟩) ?_
                · go_simp
                simp only [List.set_cons_succ, List.set_cons_zero]
                refine takeG (i := 18) (v := .int .i64 te) rfl rfl (by kernel_rfl) (by kernel_rfl) (by kernel_rfl) (by kernel_rfl) (fun _ _ _ h => h) (Or.inl ⟨by kernel_rfl, fun w' hSw => Or.inl ⟨w', ?_, hSw⟩⟩) ?_
                · have hl := hos.out w' hSw; go_simp
                simp only [List.set_cons_succ, List.set_cons_zero]
                refine takeG (i := 19) (v := chv F cap) rfl rfl (by kernel_rfl) (by kernel_rfl) (by kernel_rfl) (by kernel_rfl) (fun _ _ _ h => h) (Or.inl ⟨by kernel_rfl, fun w' hSw => Or.inl ⟨w', ?_, hSw⟩⟩) ?_
                · go_simp
                simp only [List.set_cons_succ, List.set_cons_zero]
                refine takeG (i := 20) (v := .agg (pcells te Y)) rfl rfl (by kernel_rfl) (by kernel_rfl) (by kernel_rfl) (by kernel_rfl) (fun _ _ _ h => h) (Or.inl ⟨by kernel_rfl, fun w' hSw => doesOf rfl (by kernel_rfl) fun K hK => ?_⟩) ?_
                · go_simp
                  refine (HCK.out _ hSw).mono ?_
                  rintro e w2 ⟨rfl, hb⟩
                  exact hK.out _ (hSw.trans (hb.mono hSw.size))
                simp only [List.set_cons_succ, List.set_cons_zero]
                refine takeG (i := 21) (v := .bool true) rfl rfl (by kernel_rfl) (by kernel_rfl) (by kernel_rfl) (by kernel_rfl) (fun _ _ _ h => h) (Or.inl ⟨by kernel_rfl, fun w' hSw => Or.inl ⟨w', ?_, hSw⟩⟩) ?_
                · have hpn := hpn.out; go_simp
                simp only [List.set_cons_succ, List.set_cons_zero]
                refine takeG (i := 22) (v := .bool true) rfl rfl (by kernel_rfl) (by kernel_rfl) (by kernel_rfl) (by kernel_rfl) (fun _ _ _ h => h) (Or.inl ⟨by kernel_rfl, fun w' hSw => Or.inl ⟨w', ?_, hSw⟩⟩) ?_
                · go_simp
                simp only [List.set_cons_succ, List.set_cons_zero]
                refine doneG (by kernel_rfl) fun w' hSw => ?_
                have HF := hide hSw
                clear hSw
                go_wp2
                go_meet
                exact ⟨rfl, HF⟩
            · refine startG (fun w' => Below W.heap.size W w') 23 (by kernel_rfl) (Below.refl _ _).drew ?_
              refine takeG (i := 0) (v := .agg #[.slice a n c, .int .i64 s, .int .i64 b]) rfl rfl (by kernel_rfl) (by kernel_rfl) (by kernel_rfl) (by kernel_rfl) (fun _ _ _ h => h) (Or.inl ⟨by kernel_rfl, fun w' hSw => Or.inl ⟨w', ?_, hSw⟩⟩) ?_
              · have hl := hxs.out w' hSw; go_simp
              simp only [List.set_cons_succ, List.set_cons_zero]
              refine takeG (i := 1) (v := .agg (vcells vs vh se sr te tr a3 l3 c3)) rfl rfl (by kernel_rfl) (by kernel_rfl) (by kernel_rfl) (by kernel_rfl) (fun _ _ _ h => h) (Or.inl ⟨by kernel_rfl, fun w' hSw => Or.inl ⟨w', ?_, hSw⟩⟩) ?_
              · have hl := hos.out w' hSw; go_simp
              simp only [List.set_cons_succ, List.set_cons_zero]
              refine takeG (i := 2) (v := .bool true) rfl rfl (by kernel_rfl) (by kernel_rfl) (by kernel_rfl) (by kernel_rfl) (fun _ _ _ h => h) (Or.inl ⟨by kernel_rfl, fun w' hSw => doesOf rfl (by kernel_rfl) fun K hK => ?_⟩) ?_
              · go_simp
                refine (HRT.out _ hSw).mono ?_
                rintro e w2 ⟨rfl, hb⟩
                exact hK.out _ (hSw.trans (hb.mono hSw.size))
              simp only [List.set_cons_succ, List.set_cons_zero]
              refine takeG (i := 3) (v := .bool false) rfl rfl (by kernel_rfl) (by kernel_rfl) (by kernel_rfl) (by kernel_rfl) (fun _ _ _ h => h) (Or.inl ⟨by kernel_rfl, fun w' hSw => Or.inl ⟨w', ?_, hSw⟩⟩) ?_
              · go_simp
              simp only [List.set_cons_succ, List.set_cons_zero]
              refine takeG (i := 4) (v := .bool false) rfl rfl (by kernel_rfl) (by kernel_rfl) (by kernel_rfl) (by kernel_rfl) (fun _ _ _ h => h) (Or.inl ⟨by kernel_rfl, fun w' hSw => Or.inl ⟨w', ?_, hSw⟩⟩) ?_
              · go_simp
              simp only [List.set_cons_succ, List.set_cons_zero]
              refine takeG (i := 5) (v := .bool true) rfl rfl (by kernel_rfl) (by kernel_rfl) (by kernel_rfl) (by kernel_rfl) (fun _ _ _ h => h) (Or.inl ⟨by kernel_rfl, fun w' hSw => Or.inl ⟨w', ?_, hSw⟩⟩) ?_
              · go_simp
              simp only [List.set_cons_succ, List.set_cons_zero]
              refine takeG (i := 6) (v := .bool false) rfl rfl (by kernel_rfl) (by kernel_rfl) (by kernel_rfl) (by kernel_rfl) (fun _ _ _ h => h) (Or.inl ⟨by kernel_rfl, fun w' hSw => Or.inl ⟨w', ?_, hSw⟩⟩) ?_
              · go_simp
              simp only [List.set_cons_succ, List.set_cons_zero]
              refine takeG (i := 7) (v := .bool false) rfl rfl (by kernel_rfl) (by kernel_rfl) (by kernel_rfl) (by kernel_rfl) (fun _ _ _ h => h) (Or.inl ⟨by kernel_rfl, fun w' hSw => Or.inl ⟨w', ?_, hSw⟩⟩) ?_
              · go_simp
              simp only [List.set_cons_succ, List.set_cons_zero]
              refine takeG (i := 8) (v := undef) rfl rfl (by kernel_rfl) (by kernel_rfl) (by kernel_rfl) (by kernel_rfl) (fun _ _ _ h => h) (Or.inr ⟨by kernel_rfl, rfl⟩) ?_
              simp only [List.set_cons_succ, List.set_cons_zero]
              refine takeG (i := 9) (v := undef) rfl rfl (by kernel_rfl) (by kernel_rfl) (by kernel_rfl) (by kernel_rfl) (fun _ _ _ h => h) (Or.inr ⟨by kernel_rfl, rfl⟩) ?_
              simp only [List.set_cons_succ, List.set_cons_zero]
              refine takeG (i := 10) (v := .bool false) rfl rfl (by kernel_rfl) (by kernel_rfl) (by kernel_rfl) (by kernel_rfl) (fun _ _ _ h => h) (Or.inl ⟨by kernel_rfl, fun w' hSw => Or.inl ⟨w', ?_, hSw⟩⟩) ?_
              · go_simp
              simp only [List.set_cons_succ, List.set_cons_zero]
              refine takeG (i := 11) (v := .bool false) rfl rfl (by kernel_rfl) (by kernel_rfl) (by kernel_rfl) (by kernel_rfl) (fun _ _ _ h => h) (Or.inl ⟨by kernel_rfl, fun w' hSw => Or.inl ⟨w', ?_, hSw⟩⟩) ?_
              · go_simp
              simp only [List.set_cons_succ, List.set_cons_zero]
              refine takeG (i := 12) (v := .bool false) rfl rfl (by kernel_rfl) (by kernel_rfl) (by kernel_rfl) (by kernel_rfl) (fun _ _ _ h => h) (Or.inl ⟨by kernel_rfl, fun w' hSw => Or.inl ⟨w', ?_, hSw⟩⟩) ?_
              · go_simp
              simp only [List.set_cons_succ, List.set_cons_zero]
              refine takeG (i := 13) (v := .pointer (some ⟨w.heap.size + 1 + 1, 4, none⟩)) rfl rfl (by kernel_rfl) (by kernel_rfl) (by kernel_rfl) (by kernel_rfl) (fun _ _ _ h => h) (Or.inl ⟨by kernel_rfl, fun w' hSw => Or.inl ⟨w', ?_, hSw⟩⟩) ?_
              · go_simp
              simp only [List.set_cons_succ, List.set_cons_zero]
              refine takeG (i := 14) (v := .agg (pcells te tr)) rfl rfl (by kernel_rfl) (by kernel_rfl) (by kernel_rfl) (by kernel_rfl) (fun _ _ _ h => h) (Or.inl ⟨by kernel_rfl, fun w' hSw => Or.inl ⟨w', ?_, hSw⟩⟩) ?_
              · have hl := hos.out w' hSw; go_simp
              simp only [List.set_cons_succ, List.set_cons_zero]
              refine takeG (i := 15) (v := .agg #[.slice a n c, .int .i64 s, .int .i64 b]) rfl rfl (by kernel_rfl) (by kernel_rfl) (by kernel_rfl) (by kernel_rfl) (fun _ _ _ h => h) (Or.inl ⟨by kernel_rfl, fun w' hSw => Or.inl ⟨w', ?_, hSw⟩⟩) ?_
              · have hl := hxs.out w' hSw; go_simp
              simp only [List.set_cons_succ, List.set_cons_zero]
              refine takeG (i := 16) (v := .pointer (some ⟨w.heap.size + 1 + 1, 4, none⟩)) rfl rfl (by kernel_rfl) (by kernel_rfl) (by kernel_rfl) (by kernel_rfl) (fun _ _ _ h => h) (Or.inl ⟨by kernel_rfl, fun w' hSw => Or.inl ⟨w', ?_, hSw⟩⟩) ?_
              · go_simp
              simp only [List.set_cons_succ, List.set_cons_zero]
              refine takeG (i := 17) (v := .pointer (some ⟨w.heap.size + 1 + 1, 4, none⟩)) rfl rfl (by kernel_rfl) (by kernel_rfl) (by kernel_rfl) (by kernel_rfl) (fun _ _ _ h => h) (Or.inl ⟨by kernel_rfl, fun w' hSw => Or.inl ⟨w', ?_, hSw⟩⟩) ?_
              · go_simp
              simp only [List.set_cons_succ, List.set_cons_zero]
              refine takeG (i := 18) (v := .int .i64 te) rfl rfl (by kernel_rfl) (by kernel_rfl) (by kernel_rfl) (by kernel_rfl) (fun _ _ _ h => h) (Or.inl ⟨by kernel_rfl, fun w' hSw => Or.inl ⟨w', ?_, hSw⟩⟩) ?_
              · have hl := hos.out w' hSw; go_simp
              simp only [List.set_cons_succ, List.set_cons_zero]
              refine takeG (i := 19) (v := chv F cap) rfl rfl (by kernel_rfl) (by kernel_rfl) (by kernel_rfl) (by kernel_rfl) (fun _ _ _ h => h) (Or.inl ⟨by kernel_rfl, fun w' hSw => Or.inl ⟨w', ?_, hSw⟩⟩) ?_
              · go_simp
              simp only [List.set_cons_succ, List.set_cons_zero]
              refine takeG (i := 20) (v := .agg (pcells te Y)) rfl rfl (by kernel_rfl) (by kernel_rfl) (by kernel_rfl) (by kernel_rfl) (fun _ _ _ h => h) (Or.inl ⟨by kernel_rfl, fun w' hSw => doesOf rfl (by kernel_rfl) fun K hK => ?_⟩) ?_
              · go_simp
                refine (HCK.out _ hSw).mono ?_
                rintro e w2 ⟨rfl, hb⟩
                exact hK.out _ (hSw.trans (hb.mono hSw.size))
              simp only [List.set_cons_succ, List.set_cons_zero]
              refine takeG (i := 21) (v := .bool true) rfl rfl (by kernel_rfl) (by kernel_rfl) (by kernel_rfl) (by kernel_rfl) (fun _ _ _ h => h) (Or.inl ⟨by kernel_rfl, fun w' hSw => Or.inl ⟨w', ?_, hSw⟩⟩) ?_
              · have hpn := hpn.out; go_simp
              simp only [List.set_cons_succ, List.set_cons_zero]
              refine takeG (i := 22) (v := .bool true) rfl rfl (by kernel_rfl) (by kernel_rfl) (by kernel_rfl) (by kernel_rfl) (fun _ _ _ h => h) (Or.inl ⟨by kernel_rfl, fun w' hSw => Or.inl ⟨w', ?_, hSw⟩⟩) ?_
              · go_simp
              simp only [List.set_cons_succ, List.set_cons_zero]
              refine doneG (by kernel_rfl) fun w' hSw => ?_
              have HF := hide hSw
              clear hSw
              go_wp2
              go_meet
              exact ⟨rfl, HF⟩
      case rest =>
        obtain ⟨rfl, hbl⟩ := hcut
        obtain ⟨hs5, ht5, hn5⟩ := hfin.out _ hbl.out
        have LD := hide (load_obj Try.underlying66 infoLS rfl hs5.at_)
        obtain ⟨w6, hrun, ho6, ha6⟩ := store_obj (P := Try.prog) (ty := 66) (n := 13) (cs := (lcells S.j S.e a1 n c1 a2 n c2).toList) infoLS rfl rfl (lcells_one _ _ _ _ _ _ _ _) ht5.at_
        have HN6 := hide (hn5.trans (ha6.old _ hn5.size (by omega)))
        have hrun' := hide hrun
        have ho6' := hide ho6
        clear hrun ho6 ha6 hs5 ht5 hn5 hbl hfin hxs hos HRT HCK
        go_wp2_with (first | refine wpList_load_at 66 (.tmp 5) rfl rfl _ rfl _ LD.out ?_ | refine wpList_store_at 66 (.tmp 8) (.tmp 67) rfl rfl _ _ rfl rfl w6 hrun'.out ?_)
        exact ret_struct2 rfl rfl (show _ = Value.bool false from rfl) ho6'.out Try.underlying66 infoLS rfl ⟨rfl, HN6.out⟩
end Go.Proofs.Ytphahkjjmomjcaa

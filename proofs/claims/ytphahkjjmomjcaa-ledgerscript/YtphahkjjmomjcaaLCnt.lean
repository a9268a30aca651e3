/- Contract of ledger.Count. -/
import Derived.Test.YtphahkjjmomjcaaLFun2

import Derived.Test.YtphahkjjmomjcaaLFun3

namespace Go.Proofs.Ytphahkjjmomjcaa

open Go.ChangeShapes Go.WideShapes Go.ChangeAt Go.RowKit

set_option linter.unusedVariables false

/-- a struct of a variable and another value are the results -/
theorem ret_struct2 {P : Program} {fn : Func} {R : Ending → World → Prop} {a : Act} {w : World} {p q : Tmp} {ty t : TypeId} {g : Nat} {cs : List Value} {fs : Array Field} {v : Value} (h : fn.results = #[.cell p ty, .tmp q]) (hp : a.tmps.getD p undef = .pointer (some ⟨g, 0, none⟩)) (hq : a.tmps.getD q undef = v)
    (hg : w.heap[g]? = some (.cells cs.toArray t (0, 0))) (hu : P.underlying ty = some (.struct fs)) (hi : (P.info? ty).map (·.size) = some cs.length) (hd : a.defers = []) (hR : R (.returned (.tuple #[.agg cs.toArray, v])) w) : bodyPost P fn R .ret a w := by
  refine bodyPost_ret ?_ hd hR
  have hp' : a.tmps[p]?.getD undef = .pointer (some ⟨g, 0, none⟩) := by simpa using hp
  have hq' : a.tmps[q]?.getD undef = v := by simpa using hq
  simp [results, h, hp', hq', asAddr, run_loadVar_row w g t ty cs.toArray (0, 0) (.struct fs) hg hu rfl (by rw [hi]; simp)]
theorem infoPt : (Try.prog.info? 62).map (·.size) = some 2 := by kernel_rfl

set_option maxRecDepth 100000 in
set_option maxHeartbeats 8000000 in
theorem cnt_led (S : LS) (who : List Int) (F : Nat) (cap : Array Value) (f : Int → Int) (a : Option Addr) (n c : Nat) (s b : Int) (a1 : Option Addr) (c1 : Nat) (a2 : Option Addr) (c2 : Nat) (vs vh se sr te tr : Int) (a3 : Option Addr) (l3 c3 : Nat) (w : World)
    (hV : RowB w a1 n c1 S.bf) (hU : RowB w a2 n c2 S.nw) (hW : RowIn .i64 w a3 l3 c3 who) (hn : 0 < n ∧ n ≤ 4096) (hF : Enters F) (hC : ChainOf w F cap f) (he : I64s S.e) (hs : I64s s) (hvs : I64s vs) (hte : I64s te) :
    Calls Try.prog 32 #[.agg #[.slice a n c, .int .i64 s, .int .i64 b], .agg (lcells S.j S.e a1 n c1 a2 n c2), .agg (vcells vs vh se sr te tr a3 l3 c3), chv F cap] w fun x w' =>
      ∃ b1 d1 b2 d2, x = .returned (.tuple #[.agg (lcells (cntS n s f S ⟨vs, vh, se, sr, te, tr, who⟩).j (cntS n s f S ⟨vs, vh, se, sr, te, tr, who⟩).e b1 n d1 b2 n d2), .bool (cntB n s f S ⟨vs, vh, se, sr, te, tr, who⟩)]) ∧ RowB w' b1 n d1 (cntS n s f S ⟨vs, vh, se, sr, te, tr, who⟩).bf ∧ RowB w' b2 n d2 (cntS n s f S ⟨vs, vh, se, sr, te, tr, who⟩).nw ∧ (∀ b off, b1 = some ⟨b, off, none⟩ → w.heap.size ≤ b) ∧ (∀ b off, b2 = some ⟨b, off, none⟩ → w.heap.size ≤ b) ∧ Below w.heap.size w w' := by
  obtain ⟨rc, hrc⟩ : ∃ x, Hid (cntS n s f S ⟨vs, vh, se, sr, te, tr, who⟩ = x) := ⟨_, rfl⟩
  obtain ⟨rb, hrb⟩ : ∃ x, Hid (cntB n s f S ⟨vs, vh, se, sr, te, tr, who⟩ = x) := ⟨_, rfl⟩
  rw [hrc.out, hrb.out]
  have HX := hide ((((OAt.new w (cfg a n c s b)).alloc (lobj S.j S.e a1 n c1 a2 n c2)).alloc (vobj vs vh se sr te tr a3 l3 c3)).alloc (lobj jz 0 none 0 0 none 0 0))
  have HS := hide (((OAt.new (w.alloc (cfg a n c s b)) (lobj S.j S.e a1 n c1 a2 n c2)).alloc (vobj vs vh se sr te tr a3 l3 c3)).alloc (lobj jz 0 none 0 0 none 0 0))
  have HO := hide ((OAt.new ((w.alloc (cfg a n c s b)).alloc (lobj S.j S.e a1 n c1 a2 n c2)) (vobj vs vh se sr te tr a3 l3 c3)).alloc (lobj jz 0 none 0 0 none 0 0))
  have HT := hide (OAt.new (((w.alloc (cfg a n c s b)).alloc (lobj S.j S.e a1 n c1 a2 n c2)).alloc (vobj vs vh se sr te tr a3 l3 c3)) (lobj jz 0 none 0 0 none 0 0))
  have HN := hide (((((Below.refl _ w).alloc (Nat.le_refl _) (cfg a n c s b)).alloc (by simp) (lobj S.j S.e a1 n c1 a2 n c2)).alloc (by simp; omega) (vobj vs vh se sr te tr a3 l3 c3)).alloc (by simp; omega) (lobj jz 0 none 0 0 none 0 0))
  simp only [World.size_alloc] at HS HO HT
  have HVs := hide hV
  have HUs := hide hU
  have HWs := hide hW
  have HCs := hide hC
  clear hV hU hC hW
  go_enter Try.func32, Try.ntmps32
  go_upto_region 1 with fail
  rw [show (#[Value.bool false, Value.bool false, Value.bool false, Value.bool false, Value.int IntKind.i64 0, Value.int IntKind.u64 0, Value.int IntKind.i64 0, Value.int IntKind.u64 0, Value.int IntKind.i64 0, Value.int IntKind.u64 0, Value.int IntKind.i64 0, Value.slice none 0 0, Value.slice none 0 0] : Array Value) = lcells jz 0 none 0 0 none 0 0 from rfl]
  generalize hW : (((w.alloc (cfg a n c s b)).alloc (lobj S.j S.e a1 n c1 a2 n c2)).alloc (vobj vs vh se sr te tr a3 l3 c3)).alloc (lobj jz 0 none 0 0 none 0 0) = W at HX HS HO HT HN
  have hWs : W.heap.size = w.heap.size + 1 + 1 + 1 + 1 := by rw [← hW]; simp
  clear hW
  have LD := hide (load_obj Try.underlying66 infoLS rfl HS.out.at_)
  have HE := hide (clone_led S.j S.e S.bf S.nw a1 n c1 a2 c2 W (HVs.out.below HN.out) (HUs.out.below HN.out) hn)
  go_wp2_with (refine wpList_load_at 66 (.tmp 5) rfl rfl _ rfl _ LD.out ?_)
  refine HE.out.mono ?_
  rintro x1 w1 ⟨b1, d1, b2, d2, rfl, R1, R2, E1, E2, hbel⟩
  have HX1 := hide ((HX.out.below hbel).alloc (lobj jz 0 none 0 0 none 0 0))
  have HS1 := hide ((HS.out.below hbel).alloc (lobj jz 0 none 0 0 none 0 0))
  have HO1 := hide ((HO.out.below hbel).alloc (lobj jz 0 none 0 0 none 0 0))
  have HT1 := hide ((HT.out.below hbel).alloc (lobj jz 0 none 0 0 none 0 0))
  have HG1 := hide (OAt.new w1 (lobj jz 0 none 0 0 none 0 0))
  have HN1 := hide ((HN.out.trans (hbel.mono (by omega))).alloc (by have := hbel.size; omega) (lobj jz 0 none 0 0 none 0 0))
  have F1 : Hid (∀ b off, b1 = some ⟨b, off, none⟩ → b < w1.heap.size ∧ w.heap.size + 1 + 1 + 1 < b) := fun b off e => ⟨R1.far hn.1 b off e, by have := E1 b off e; omega⟩
  have F2 : Hid (∀ b off, b2 = some ⟨b, off, none⟩ → b < w1.heap.size ∧ w.heap.size + 1 + 1 + 1 < b) := fun b off e => ⟨R2.far hn.1 b off e, by have := E2 b off e; omega⟩
  have HR1 := hide (R1.alloc (lobj jz 0 none 0 0 none 0 0))
  have HR2 := hide (R2.alloc (lobj jz 0 none 0 0 none 0 0))
  have hW1 : W.heap.size ≤ w1.heap.size := hbel.size
  obtain ⟨g, hg⟩ : ∃ x, Hid (w1.heap.size = x) := ⟨_, rfl⟩
  obtain ⟨w2, hrun, ho2, ha2⟩ := store_obj (P := Try.prog) (ty := 66) (n := 13) (cs := (lcells S.j S.e b1 n d1 b2 n d2).toList) infoLS rfl rfl (lcells_one _ _ _ _ _ _ _ _) HG1.out.at_
  have hrun' := hide hrun
  have ho2' : Hid (w2.heap[w1.heap.size]? = some (lobj S.j S.e b1 n d1 b2 n d2)) := ho2
  clear hrun hbel LD HX HS HO HT R1 R2 E1 E2 ho2 HE
  go_upto_region 2 with (refine wpList_store_at 66 (.tmp 10) (.tmp 12) rfl rfl _ _ rfl rfl w2 hrun'.out ?_)
  have hsz2 : w1.heap.size < w2.heap.size := by have := ha2.size; simp at this; omega
  have HX2 := hide (HX1.out.apart ha2 (by omega))
  have HS2 := hide (HS1.out.apart ha2 (by omega))
  have HO2 := hide (HO1.out.apart ha2 (by omega))
  have HT2 := hide (HT1.out.apart ha2 (by omega))
  have HG2 : Hid (OAt w2 w1.heap.size (lobj S.j S.e b1 n d1 b2 n d2)) := OAt.of ho2'.out
  have HN2 := hide (HN1.out.trans (ha2.old _ (by simp; omega) (by omega)))
  have HR1' := hide (HR1.out.aside ha2 (fun b off e => by have := (F1.out b off e).1; omega))
  have HR2' := hide (HR2.out.aside ha2 (fun b off e => by have := (F2.out b off e).1; omega))
  clear HX1 HS1 HO1 HT1 HG1 HN1 HR1 HR2 ho2' ha2 hrun'
  rw [hg.out] at HG2 hsz2 hW1 F1 F2 ⊢
  have hxs : Hid (∀ w', Below w2.heap.size w2 w' → w'.cell? ⟨w.heap.size, 0, none⟩ = some (.slice a n c) ∧ w'.cell? ⟨w.heap.size, 1, none⟩ = some (.int .i64 s) ∧ w'.cell? ⟨w.heap.size, 2, none⟩ = some (.int .i64 b)) := fun w' h => by
    have V := HX2.out.below h
    exact ⟨V.cell 0, V.cell 1, V.cell 2⟩
  have hos : Hid (∀ w', Below w2.heap.size w2 w' → w'.cell? ⟨w.heap.size + 1 + 1, 0, none⟩ = some (.int .i64 vs) ∧ w'.cell? ⟨w.heap.size + 1 + 1, 1, none⟩ = some (.int .u64 vh) ∧ w'.cell? ⟨w.heap.size + 1 + 1, 2, none⟩ = some (.int .i64 se) ∧ w'.cell? ⟨w.heap.size + 1 + 1, 3, none⟩ = some (.int .u64 sr) ∧ w'.cell? ⟨w.heap.size + 1 + 1, 4, none⟩ = some (.int .i64 te) ∧ w'.cell? ⟨w.heap.size + 1 + 1, 5, none⟩ = some (.int .u64 tr) ∧ w'.cell? ⟨w.heap.size + 1 + 1, 6, none⟩ = some (.slice a3 l3 c3)) := fun w' h => by
    have V := HO2.out.below h
    exact ⟨V.cell 0, V.cell 1, V.cell 2, V.cell 3, V.cell 4, V.cell 5, V.cell 6⟩
  have hin : Hid (∀ w', Below w2.heap.size w2 w' → Below w.heap.size w w') := fun w' h => HN2.out.trans (h.mono HN2.out.size)
  obtain ⟨R, hR⟩ : ∃ x, Hid ((whoB who (n : Int) && timesB vs se te s) = x) := ⟨_, rfl⟩
  obtain ⟨Y, hY⟩ : ∃ x, Hid (f (stI te s) = x) := ⟨_, rfl⟩
  have HRT : Hid (∀ w', Below w2.heap.size w2 w' → Calls Try.prog 61 #[.agg #[.slice a n c, .int .i64 s, .int .i64 b], .agg (vcells vs vh se sr te tr a3 l3 c3)] w' fun e w'' => e = .returned (.bool R) ∧ Below w'.heap.size w' w'') := fun w' h => by
    rw [← hR.out]
    exact right_any who a n c s b vs vh se sr te tr a3 l3 c3 w' (HWs.out.below (hin.out _ h)) hvs hs
  have HCK : Hid (∀ w', Below w2.heap.size w2 w' → Calls Try.prog 62 #[.agg #[.slice a n c, .int .i64 s, .int .i64 b], .int .i64 te, chv F cap] w' fun e w'' => e = .returned (.agg (pcells (lo0 te) Y)) ∧ Below w'.heap.size w' w'') := fun w' h => by
    rw [← hY.out]
    exact check_any F cap f a n c s b te w' hF (HCs.out.below (hin.out _ h)) hte hs
  cases R with
  | false =>
    refine startG (fun w' => Below w2.heap.size w2 w') 15 (by kernel_rfl) (Below.refl _ _).drew ?_
    refine takeG (i := 0) (v := .agg #[.slice a n c, .int .i64 s, .int .i64 b]) rfl rfl (by kernel_rfl) (by kernel_rfl) (by kernel_rfl) (by kernel_rfl) (fun _ _ _ h => h) (Or.inl ⟨by kernel_rfl, fun w' hSw => Or.inl ⟨w', ?_, hSw⟩⟩) ?_
    · have hl := hxs.out w' hSw; go_simp
    simp only [List.set_cons_succ, List.set_cons_zero]
    refine takeG (i := 1) (v := .agg (vcells vs vh se sr te tr a3 l3 c3)) rfl rfl (by kernel_rfl) (by kernel_rfl) (by kernel_rfl) (by kernel_rfl) (fun _ _ _ h => h) (Or.inl ⟨by kernel_rfl, fun w' hSw => Or.inl ⟨w', ?_, hSw⟩⟩) ?_
    · have hl := hos.out w' hSw; go_simp
    simp only [List.set_cons_succ, List.set_cons_zero]
    refine takeG (i := 2) (v := .bool false) rfl rfl (by kernel_rfl) (by kernel_rfl) (by kernel_rfl) (by kernel_rfl) (fun _ _ _ h => h) (Or.inl ⟨by kernel_rfl, fun w' hSw => doesOf rfl (by kernel_rfl) fun K hK => ?_⟩) ?_
    · go_simp
      refine (HRT.out _ hSw).mono ?_
      rintro e w2 ⟨rfl, hb⟩
      exact hK.out _ (hSw.trans (hb.mono hSw.size))
    simp only [List.set_cons_succ, List.set_cons_zero]
    refine takeG (i := 3) (v := .bool true) rfl rfl (by kernel_rfl) (by kernel_rfl) (by kernel_rfl) (by kernel_rfl) (fun _ _ _ h => h) (Or.inl ⟨by kernel_rfl, fun w' hSw => Or.inl ⟨w', ?_, hSw⟩⟩) ?_
    · go_simp
    simp only [List.set_cons_succ, List.set_cons_zero]
    refine takeG (i := 4) (v := .bool true) rfl rfl (by kernel_rfl) (by kernel_rfl) (by kernel_rfl) (by kernel_rfl) (fun _ _ _ h => h) (Or.inl ⟨by kernel_rfl, fun w' hSw => Or.inl ⟨w', ?_, hSw⟩⟩) ?_
    · go_simp
    simp only [List.set_cons_succ, List.set_cons_zero]
    refine takeG (i := 5) (v := undef) rfl rfl (by kernel_rfl) (by kernel_rfl) (by kernel_rfl) (by kernel_rfl) (fun _ _ _ h => h) (Or.inr ⟨by kernel_rfl, rfl⟩) ?_
    simp only [List.set_cons_succ, List.set_cons_zero]
    refine takeG (i := 6) (v := undef) rfl rfl (by kernel_rfl) (by kernel_rfl) (by kernel_rfl) (by kernel_rfl) (fun _ _ _ h => h) (Or.inr ⟨by kernel_rfl, rfl⟩) ?_
    simp only [List.set_cons_succ, List.set_cons_zero]
    refine takeG (i := 7) (v := undef) rfl rfl (by kernel_rfl) (by kernel_rfl) (by kernel_rfl) (by kernel_rfl) (fun _ _ _ h => h) (Or.inr ⟨by kernel_rfl, rfl⟩) ?_
    simp only [List.set_cons_succ, List.set_cons_zero]
    refine takeG (i := 8) (v := undef) rfl rfl (by kernel_rfl) (by kernel_rfl) (by kernel_rfl) (by kernel_rfl) (fun _ _ _ h => h) (Or.inr ⟨by kernel_rfl, rfl⟩) ?_
    simp only [List.set_cons_succ, List.set_cons_zero]
    refine takeG (i := 9) (v := undef) rfl rfl (by kernel_rfl) (by kernel_rfl) (by kernel_rfl) (by kernel_rfl) (fun _ _ _ h => h) (Or.inr ⟨by kernel_rfl, rfl⟩) ?_
    simp only [List.set_cons_succ, List.set_cons_zero]
    refine takeG (i := 10) (v := undef) rfl rfl (by kernel_rfl) (by kernel_rfl) (by kernel_rfl) (by kernel_rfl) (fun _ _ _ h => h) (Or.inr ⟨by kernel_rfl, rfl⟩) ?_
    simp only [List.set_cons_succ, List.set_cons_zero]
    refine takeG (i := 11) (v := undef) rfl rfl (by kernel_rfl) (by kernel_rfl) (by kernel_rfl) (by kernel_rfl) (fun _ _ _ h => h) (Or.inr ⟨by kernel_rfl, rfl⟩) ?_
    simp only [List.set_cons_succ, List.set_cons_zero]
    refine takeG (i := 12) (v := undef) rfl rfl (by kernel_rfl) (by kernel_rfl) (by kernel_rfl) (by kernel_rfl) (fun _ _ _ h => h) (Or.inr ⟨by kernel_rfl, rfl⟩) ?_
    simp only [List.set_cons_succ, List.set_cons_zero]
    refine takeG (i := 13) (v := undef) rfl rfl (by kernel_rfl) (by kernel_rfl) (by kernel_rfl) (by kernel_rfl) (fun _ _ _ h => h) (Or.inr ⟨by kernel_rfl, rfl⟩) ?_
    simp only [List.set_cons_succ, List.set_cons_zero]
    refine takeG (i := 14) (v := .bool true) rfl rfl (by kernel_rfl) (by kernel_rfl) (by kernel_rfl) (by kernel_rfl) (fun _ _ _ h => h) (Or.inl ⟨by kernel_rfl, fun w' hSw => Or.inl ⟨w', ?_, hSw⟩⟩) ?_
    · go_simp
    simp only [List.set_cons_succ, List.set_cons_zero]
    refine doneG (by kernel_rfl) fun w' hSw => ?_
    have hbel := hSw
    have hx := hxs.out w' hbel
    have ho := hos.out w' hbel
    have hNw := hin.out w' hbel
    replace HT2 := hide (HT2.out.below hbel)
    replace HG2 := hide (HG2.out.below hbel)
    replace HS2 := hide (HS2.out.below hbel)
    replace HR1' := hide (HR1'.out.below hbel)
    replace HR2' := hide (HR2'.out.below hbel)
    have HNW := hide hNw
    have hsz5 : g < w'.heap.size := by have := Below.size hbel; omega
    clear hSw hbel hxs hos hin HRT HCK HX2 HO2 HN2 hsz2 hNw
    have hrcE : Hid (rc = S ∧ rb = false) := by
      have hb : rb = false := by rw [← hrb.out]; rw [cntB, VV.right, hR.out]; rfl
      refine ⟨?_, hb⟩
      rw [← hrc.out, cntS, hrb.out, hb]
      rfl
    have LD := hide (load_obj Try.underlying66 infoLS rfl HG2.out.at_)
    obtain ⟨w6, hrun, ho6, ha6⟩ := store_obj (P := Try.prog) (ty := 66) (n := 13) (cs := (lcells S.j S.e b1 n d1 b2 n d2).toList) infoLS rfl rfl (lcells_one _ _ _ _ _ _ _ _) HT2.out.at_
    have HQ1 := hide (HR1'.out.aside ha6 (fun b off e => by have := (F1.out b off e).2; omega))
    have HQ2 := hide (HR2'.out.aside ha6 (fun b off e => by have := (F2.out b off e).2; omega))
    have HN6 := hide (HNW.out.trans (ha6.old _ HNW.out.size (by omega)))
    have hrun' := hide hrun
    have ho6' := hide ho6
    clear hrun ho6 ha6
    go_wp2_with (first | refine wpList_load_at 66 (.tmp 10) rfl rfl _ rfl _ LD.out ?_ | refine wpList_store_at 66 (.tmp 8) (.tmp 28) rfl rfl _ _ rfl rfl w6 hrun'.out ?_)
    all_goals exact ret_struct2 rfl rfl (show _ = Value.bool false from rfl) ho6'.out Try.underlying66 infoLS rfl ⟨b1, d1, b2, d2, by rw [hrcE.out.1, hrcE.out.2], by rw [hrcE.out.1]; exact HQ1.out, by rw [hrcE.out.1]; exact HQ2.out, fun b off e => by have := (F1.out b off e).2; omega, fun b off e => by have := (F2.out b off e).2; omega, HN6.out⟩
  | true =>
    have hRt := hR.out
    have hwho := hide ((whoB_true who n).1 ((Bool.and_eq_true _ _).mp hRt).1).2.1
    by_cases hp : te = lo0 te ∧ tr = Y
    · have hp' := hide hp
      clear hp
      refine startG (fun w' => Below w2.heap.size w2 w') 15 (by kernel_rfl) (Below.refl _ _).drew ?_
      refine takeG (i := 0) (v := .agg #[.slice a n c, .int .i64 s, .int .i64 b]) rfl rfl (by kernel_rfl) (by kernel_rfl) (by kernel_rfl) (by kernel_rfl) (fun _ _ _ h => h) (Or.inl ⟨by kernel_rfl, fun w' hSw => Or.inl ⟨w', ?_, hSw⟩⟩) ?_
      · have hl := hxs.out w' hSw; go_simp
      simp only [List.set_cons_succ, List.set_cons_zero]
      refine takeG (i := 1) (v := .agg (vcells vs vh se sr te tr a3 l3 c3)) rfl rfl (by kernel_rfl) (by kernel_rfl) (by kernel_rfl) (by kernel_rfl) (fun _ _ _ h => h) (Or.inl ⟨by kernel_rfl, fun w' hSw => Or.inl ⟨w', ?_, hSw⟩⟩) ?_
      · have hl := hos.out w' hSw; go_simp
      simp only [List.set_cons_succ, List.set_cons_zero]
      refine takeG (i := 2) (v := .bool true) rfl rfl (by kernel_rfl) (by kernel_rfl) (by kernel_rfl) (by kernel_rfl) (fun _ _ _ h => h) (Or.inl ⟨by kernel_rfl, fun w' hSw => doesOf rfl (by kernel_rfl) fun K hK => ?_⟩) ?_
      · go_simp
        refine (HRT.out _ hSw).mono ?_
        rintro e w2 ⟨rfl, hb⟩
        exact hK.out _ (hSw.trans (hb.mono hSw.size))
      simp only [List.set_cons_succ, List.set_cons_zero]
      refine takeG (i := 3) (v := .bool false) rfl rfl (by kernel_rfl) (by kernel_rfl) (by kernel_rfl) (by kernel_rfl) (fun _ _ _ h => h) (Or.inl ⟨by kernel_rfl, fun w' hSw => Or.inl ⟨w', ?_, hSw⟩⟩) ?_
      · go_simp
      simp only [List.set_cons_succ, List.set_cons_zero]
      refine takeG (i := 4) (v := .bool false) rfl rfl (by kernel_rfl) (by kernel_rfl) (by kernel_rfl) (by kernel_rfl) (fun _ _ _ h => h) (Or.inl ⟨by kernel_rfl, fun w' hSw => Or.inl ⟨w', ?_, hSw⟩⟩) ?_
      · go_simp
      simp only [List.set_cons_succ, List.set_cons_zero]
      refine takeG (i := 5) (v := .pointer (some ⟨w.heap.size + 1 + 1, 4, none⟩)) rfl rfl (by kernel_rfl) (by kernel_rfl) (by kernel_rfl) (by kernel_rfl) (fun _ _ _ h => h) (Or.inl ⟨by kernel_rfl, fun w' hSw => Or.inl ⟨w', ?_, hSw⟩⟩) ?_
      · go_simp
      simp only [List.set_cons_succ, List.set_cons_zero]
      refine takeG (i := 6) (v := .agg (pcells te tr)) rfl rfl (by kernel_rfl) (by kernel_rfl) (by kernel_rfl) (by kernel_rfl) (fun _ _ _ h => h) (Or.inl ⟨by kernel_rfl, fun w' hSw => Or.inl ⟨w', ?_, hSw⟩⟩) ?_
      · have hl := hos.out w' hSw; go_simp
      simp only [List.set_cons_succ, List.set_cons_zero]
      refine takeG (i := 7) (v := .agg #[.slice a n c, .int .i64 s, .int .i64 b]) rfl rfl (by kernel_rfl) (by kernel_rfl) (by kernel_rfl) (by kernel_rfl) (fun _ _ _ h => h) (Or.inl ⟨by kernel_rfl, fun w' hSw => Or.inl ⟨w', ?_, hSw⟩⟩) ?_
      · have hl := hxs.out w' hSw; go_simp
      simp only [List.set_cons_succ, List.set_cons_zero]
      refine takeG (i := 8) (v := .pointer (some ⟨w.heap.size + 1 + 1, 4, none⟩)) rfl rfl (by kernel_rfl) (by kernel_rfl) (by kernel_rfl) (by kernel_rfl) (fun _ _ _ h => h) (Or.inl ⟨by kernel_rfl, fun w' hSw => Or.inl ⟨w', ?_, hSw⟩⟩) ?_
      · go_simp
      simp only [List.set_cons_succ, List.set_cons_zero]
      refine takeG (i := 9) (v := .pointer (some ⟨w.heap.size + 1 + 1, 4, none⟩)) rfl rfl (by kernel_rfl) (by kernel_rfl) (by kernel_rfl) (by kernel_rfl) (fun _ _ _ h => h) (Or.inl ⟨by kernel_rfl, fun w' hSw => Or.inl ⟨w', ?_, hSw⟩⟩) ?_
      · go_simp
      simp only [List.set_cons_succ, List.set_cons_zero]
      refine takeG (i := 10) (v := .int .i64 te) rfl rfl (by kernel_rfl) (by kernel_rfl) (by kernel_rfl) (by kernel_rfl) (fun _ _ _ h => h) (Or.inl ⟨by kernel_rfl, fun w' hSw => Or.inl ⟨w', ?_, hSw⟩⟩) ?_
      · have hl := hos.out w' hSw; go_simp
      simp only [List.set_cons_succ, List.set_cons_zero]
      refine takeG (i := 11) (v := chv F cap) rfl rfl (by kernel_rfl) (by kernel_rfl) (by kernel_rfl) (by kernel_rfl) (fun _ _ _ h => h) (Or.inl ⟨by kernel_rfl, fun w' hSw => Or.inl ⟨w', ?_, hSw⟩⟩) ?_
      · go_simp
      simp only [List.set_cons_succ, List.set_cons_zero]
      refine takeG (i := 12) (v := .agg (pcells (lo0 te) Y)) rfl rfl (by kernel_rfl) (by kernel_rfl) (by kernel_rfl) (by kernel_rfl) (fun _ _ _ h => h) (Or.inl ⟨by kernel_rfl, fun w' hSw => doesOf rfl (by kernel_rfl) fun K hK => ?_⟩) ?_
      · go_simp
        refine (HCK.out _ hSw).mono ?_
        rintro e w2 ⟨rfl, hb⟩
        exact hK.out _ (hSw.trans (hb.mono hSw.size))
      simp only [List.set_cons_succ, List.set_cons_zero]
      refine takeG (i := 13) (v := .bool false) rfl rfl (by kernel_rfl) (by kernel_rfl) (by kernel_rfl) (by kernel_rfl) (fun _ _ _ h => h) (Or.inl ⟨by kernel_rfl, fun w' hSw => Or.inl ⟨w', ?_, hSw⟩⟩) ?_
      · go_simp; rw [if_pos hp'.out.1, if_pos hp'.out.2]
      simp only [List.set_cons_succ, List.set_cons_zero]
      refine takeG (i := 14) (v := .bool false) rfl rfl (by kernel_rfl) (by kernel_rfl) (by kernel_rfl) (by kernel_rfl) (fun _ _ _ h => h) (Or.inl ⟨by kernel_rfl, fun w' hSw => Or.inl ⟨w', ?_, hSw⟩⟩) ?_
      · go_simp
      simp only [List.set_cons_succ, List.set_cons_zero]
      refine doneG (by kernel_rfl) fun w' hSw => ?_
      have hbel := hSw
      have hx := hxs.out w' hbel
      have ho := hos.out w' hbel
      have hNw := hin.out w' hbel
      replace HT2 := hide (HT2.out.below hbel)
      replace HG2 := hide (HG2.out.below hbel)
      replace HS2 := hide (HS2.out.below hbel)
      replace HR1' := hide (HR1'.out.below hbel)
      replace HR2' := hide (HR2'.out.below hbel)
      have HNW := hide hNw
      have hsz5 : g < w'.heap.size := by have := Below.size hbel; omega
      clear hSw hbel hxs hos hin HRT HCK HX2 HO2 HN2 hsz2 hNw
      have hpt : Hid (onPoint s f ⟨vs, vh, se, sr, te, tr, who⟩ = true) := by
        show decide _ = true
        rw [hY.out]
        exact decide_eq_true hp'.out
      have hl := HS2.out.lc.1
      have hj4 : w'.cell? ⟨w.heap.size + 1, 4, none⟩ = some (.int .i64 S.j.pe) := HS2.out.cell 4
      have hj5 : w'.cell? ⟨w.heap.size + 1, 5, none⟩ = some (.int .u64 S.j.pr) := HS2.out.cell 5
      have hj6 : w'.cell? ⟨w.heap.size + 1, 6, none⟩ = some (.int .i64 S.j.ce) := HS2.out.cell 6
      have hj7 : w'.cell? ⟨w.heap.size + 1, 7, none⟩ = some (.int .u64 S.j.cr) := HS2.out.cell 7
      clear hp'
      have hwr : IntKind.i64.wrap (S.e - 1) = wrap64 (S.e - 1) := by rw [IntKind.wrap_i64]; unfold wrap64; omega
      have hne : ¬ S.e = wrap64 (S.e - 1) := by unfold I64s at he; unfold wrap64; omega
      obtain ⟨E1, hE1⟩ : ∃ x, Hid (wrap64 (S.e - 1) = x) := ⟨_, rfl⟩
      rw [hE1.out] at hwr hne
      by_cases e1 : te = S.e
      · by_cases e2 : se = S.j.ce ∧ sr = S.j.cr
        · have hnow : Hid (isNow S ⟨vs, vh, se, sr, te, tr, who⟩ = true) := by
            show (decide _ && decide _) = _
            rw [decide_eq_true e1, decide_eq_true e2]; rfl
          subst e1
          obtain ⟨rfl, rfl⟩ := e2
          have hrcE : Hid (rc = ⟨S.j, S.e, S.bf, mark S.nw who⟩ ∧ rb = true) := by
            have hb : rb = true := by
              rw [← hrb.out, cntB, VV.right, hR.out, hpt.out, hnow.out, Bool.true_or]
              rfl
            refine ⟨?_, hb⟩
            rw [← hrc.out, cntS, hrb.out, hb, if_pos rfl, hnow.out, if_pos rfl]
          have HWm := hide (with_led S.nw who a n c s b b2 d2 a3 l3 c3 w' HR2'.out (HWs.out.below HNW.out) hn hwho.out)
          have hq := HG2.out.lc
          go_wp2_with fail
          refine HWm.out.mono ?_
          rintro xw w5 ⟨gw, rfl, hRW, hge, hbel⟩
          have hgw : gw ≠ g := by omega
          have HG5 := hide (HG2.out.below hbel)
          have HT5 := hide (HT2.out.below hbel)
          have HN5 := hide (HNW.out.trans (hbel.mono HNW.out.size))
          have HK5 := hide (HR1'.out.below hbel)
          have HW5 := hide hRW
          have hge5 : W.heap.size ≤ gw := by omega
          clear HWm hbel hRW hx ho hl hj4 hj5 hj6 hj7 hq HG2 HT2 HNW HR1' HR2' HS2
          have hq := HG5.out.lc.2.2
          have hf5 := HG5.out.soft 12
          have HA := hide ((Apart.refl g w5).set 12 (.slice (some ⟨gw, 0, none⟩) n n))
          have HG7 := hide (HG5.out.set2 (some ⟨gw, 0, none⟩) n n)
          have HT7 := hide (HT5.out.apart HA.out (by omega))
          have HN7 := hide (HN5.out.trans (HA.out.old _ HN5.out.size (by omega)))
          have HK7 := hide (HK5.out.aside HA.out (fun b off e => by have := (F1.out b off e).1; omega))
          have HW7 := hide (HW5.out.aside HA.out (fun b off e => by cases e; exact hgw))
          have LD := hide (load_obj Try.underlying66 infoLS rfl HG7.out.at_)
          obtain ⟨w6, hrun, ho6, ha6⟩ := store_obj (P := Try.prog) (ty := 66) (n := 13) (cs := (lcells S.j S.e b1 n d1 (some ⟨gw, 0, none⟩) n n).toList) infoLS rfl rfl (lcells_one _ _ _ _ _ _ _ _) HT7.out.at_
          have HQ1 := hide (HK7.out.aside ha6 (fun b off e => by have := (F1.out b off e).2; omega))
          have HQ2 := hide (HW7.out.aside ha6 (fun b off e => by cases e; omega))
          have HN6 := hide (HN7.out.trans (ha6.old _ HN7.out.size (by omega)))
          have hrun' := hide hrun
          have ho6' := hide ho6
          clear hrun ho6 ha6 HG5 HT5 HN5 HK5 HW5 HA HG7 HT7 HN7 HK7 HW7
          go_wp2_with (first | refine wpList_load_at 66 (.tmp 10) rfl rfl _ rfl _ LD.out ?_ | refine wpList_store_at 66 (.tmp 8) (.tmp 75) rfl rfl _ _ rfl rfl w6 hrun'.out ?_)
          exact ret_struct2 rfl rfl (show _ = Value.bool true from rfl) ho6'.out Try.underlying66 infoLS rfl ⟨_, _, _, _, by rw [hrcE.out.1, hrcE.out.2], by rw [hrcE.out.1]; exact HQ1.out, by rw [hrcE.out.1]; exact HQ2.out, fun b off e => by have := (F1.out b off e).2; omega, fun b off e => by cases e; omega, HN6.out⟩
        · have hnow : Hid (isNow S ⟨vs, vh, se, sr, te, tr, who⟩ = false) := by
            show (decide _ && decide _) = _
            rw [decide_eq_false e2, Bool.and_false]
          have hbef : Hid (isBefore S ⟨vs, vh, se, sr, te, tr, who⟩ = false) := by
            show (decide _ && decide _) = _
            rw [hE1.out, decide_eq_false (show ¬ te = E1 by rw [e1]; exact hne)]; rfl
          have hrcE : Hid (rc = S ∧ rb = false) := by
            have hb : rb = false := by
              rw [← hrb.out, cntB]
              rw [hnow.out, hbef.out, Bool.or_false, Bool.and_false]
            refine ⟨?_, hb⟩
            rw [← hrc.out, cntS, hrb.out, hb]
            rfl
          subst e1
          have LD := hide (load_obj Try.underlying66 infoLS rfl HG2.out.at_)
          obtain ⟨w6, hrun, ho6, ha6⟩ := store_obj (P := Try.prog) (ty := 66) (n := 13) (cs := (lcells S.j S.e b1 n d1 b2 n d2).toList) infoLS rfl rfl (lcells_one _ _ _ _ _ _ _ _) HT2.out.at_
          have HQ1 := hide (HR1'.out.aside ha6 (fun b off e => by have := (F1.out b off e).2; omega))
          have HQ2 := hide (HR2'.out.aside ha6 (fun b off e => by have := (F2.out b off e).2; omega))
          have HN6 := hide (HNW.out.trans (ha6.old _ HNW.out.size (by omega)))
          have hrun' := hide hrun
          have ho6' := hide ho6
          clear hrun ho6 ha6
          go_wp2_with (first | refine wpList_load_at 66 (.tmp 10) rfl rfl _ rfl _ LD.out ?_ | refine wpList_store_at 66 (.tmp 8) (.tmp 29) rfl rfl _ _ rfl rfl w6 hrun'.out ?_)
          all_goals exact ret_struct2 rfl rfl (show _ = Value.bool false from rfl) ho6'.out Try.underlying66 infoLS rfl ⟨b1, d1, b2, d2, by rw [hrcE.out.1, hrcE.out.2], by rw [hrcE.out.1]; exact HQ1.out, by rw [hrcE.out.1]; exact HQ2.out, fun b off e => by have := (F1.out b off e).2; omega, fun b off e => by have := (F2.out b off e).2; omega, HN6.out⟩
      · have hnow : Hid (isNow S ⟨vs, vh, se, sr, te, tr, who⟩ = false) := by
          show (decide _ && decide _) = _
          rw [decide_eq_false e1]; rfl
        by_cases e3 : te = E1
        · by_cases e4 : se = S.j.pe ∧ sr = S.j.pr
          · have hbef : Hid (isBefore S ⟨vs, vh, se, sr, te, tr, who⟩ = true) := by
              show (decide _ && decide _) = _
              rw [hE1.out, decide_eq_true e3, decide_eq_true e4]; rfl
            obtain ⟨rfl, rfl⟩ := e4
            subst e3
            have hrcE : Hid (rc = ⟨S.j, S.e, mark S.bf who, S.nw⟩ ∧ rb = true) := by
              have hb : rb = true := by
                rw [← hrb.out, cntB, VV.right, hR.out, hpt.out, hnow.out, hbef.out, Bool.or_true]
                rfl
              refine ⟨?_, hb⟩
              rw [← hrc.out, cntS, hrb.out, hb, if_pos rfl, hnow.out, if_neg Bool.false_ne_true]
            have HWm := hide (with_led S.bf who a n c s b b1 d1 a3 l3 c3 w' HR1'.out (HWs.out.below HNW.out) hn hwho.out)
            have hq := HG2.out.lc
            go_wp2_with fail
            refine HWm.out.mono ?_
            rintro xw w5 ⟨gw, rfl, hRW, hge, hbel⟩
            have hgw : gw ≠ g := by omega
            have HG5 := hide (HG2.out.below hbel)
            have HT5 := hide (HT2.out.below hbel)
            have HN5 := hide (HNW.out.trans (hbel.mono HNW.out.size))
            have HK5 := hide (HR2'.out.below hbel)
            have HW5 := hide hRW
            have hge5 : W.heap.size ≤ gw := by omega
            clear HWm hbel hRW hx ho hl hj4 hj5 hj6 hj7 hq HG2 HT2 HNW HR1' HR2' HS2
            have hq := HG5.out.lc.2.1
            have hf5 := HG5.out.soft 11
            have HA := hide ((Apart.refl g w5).set 11 (.slice (some ⟨gw, 0, none⟩) n n))
            have HG7 := hide (HG5.out.set1 (some ⟨gw, 0, none⟩) n n)
            have HT7 := hide (HT5.out.apart HA.out (by omega))
            have HN7 := hide (HN5.out.trans (HA.out.old _ HN5.out.size (by omega)))
            have HK7 := hide (HK5.out.aside HA.out (fun b off e => by have := (F2.out b off e).1; omega))
            have HW7 := hide (HW5.out.aside HA.out (fun b off e => by cases e; exact hgw))
            have LD := hide (load_obj Try.underlying66 infoLS rfl HG7.out.at_)
            obtain ⟨w6, hrun, ho6, ha6⟩ := store_obj (P := Try.prog) (ty := 66) (n := 13) (cs := (lcells S.j S.e (some ⟨gw, 0, none⟩) n n b2 n d2).toList) infoLS rfl rfl (lcells_one _ _ _ _ _ _ _ _) HT7.out.at_
            have HQ1 := hide (HK7.out.aside ha6 (fun b off e => by have := (F2.out b off e).2; omega))
            have HQ2 := hide (HW7.out.aside ha6 (fun b off e => by cases e; omega))
            have HN6 := hide (HN7.out.trans (ha6.old _ HN7.out.size (by omega)))
            have hrun' := hide hrun
            have ho6' := hide ho6
            clear hrun ho6 ha6 HG5 HT5 HN5 HK5 HW5 HA HG7 HT7 HN7 HK7 HW7
            go_wp2_with (first | refine wpList_load_at 66 (.tmp 10) rfl rfl _ rfl _ LD.out ?_ | refine wpList_store_at 66 (.tmp 8) (.tmp 75) rfl rfl _ _ rfl rfl w6 hrun'.out ?_)
            exact ret_struct2 rfl rfl (show _ = Value.bool true from rfl) ho6'.out Try.underlying66 infoLS rfl ⟨_, _, _, _, by rw [hrcE.out.1, hrcE.out.2], by rw [hrcE.out.1]; exact HQ2.out, by rw [hrcE.out.1]; exact HQ1.out, fun b off e => by cases e; omega, fun b off e => by have := (F2.out b off e).2; omega, HN6.out⟩
          · have hbef : Hid (isBefore S ⟨vs, vh, se, sr, te, tr, who⟩ = false) := by
              show (decide _ && decide _) = _
              rw [decide_eq_false e4, Bool.and_false]
            have hrcE : Hid (rc = S ∧ rb = false) := by
              have hb : rb = false := by
                rw [← hrb.out, cntB]
                rw [hnow.out, hbef.out, Bool.or_false, Bool.and_false]
              refine ⟨?_, hb⟩
              rw [← hrc.out, cntS, hrb.out, hb]
              rfl
            subst e3
            have LD := hide (load_obj Try.underlying66 infoLS rfl HG2.out.at_)
            obtain ⟨w6, hrun, ho6, ha6⟩ := store_obj (P := Try.prog) (ty := 66) (n := 13) (cs := (lcells S.j S.e b1 n d1 b2 n d2).toList) infoLS rfl rfl (lcells_one _ _ _ _ _ _ _ _) HT2.out.at_
            have HQ1 := hide (HR1'.out.aside ha6 (fun b off e => by have := (F1.out b off e).2; omega))
            have HQ2 := hide (HR2'.out.aside ha6 (fun b off e => by have := (F2.out b off e).2; omega))
            have HN6 := hide (HNW.out.trans (ha6.old _ HNW.out.size (by omega)))
            have hrun' := hide hrun
            have ho6' := hide ho6
            clear hrun ho6 ha6
            go_wp2_with (first | refine wpList_load_at 66 (.tmp 10) rfl rfl _ rfl _ LD.out ?_ | refine wpList_store_at 66 (.tmp 8) (.tmp 29) rfl rfl _ _ rfl rfl w6 hrun'.out ?_)
            all_goals exact ret_struct2 rfl rfl (show _ = Value.bool false from rfl) ho6'.out Try.underlying66 infoLS rfl ⟨b1, d1, b2, d2, by rw [hrcE.out.1, hrcE.out.2], by rw [hrcE.out.1]; exact HQ1.out, by rw [hrcE.out.1]; exact HQ2.out, fun b off e => by have := (F1.out b off e).2; omega, fun b off e => by have := (F2.out b off e).2; omega, HN6.out⟩
        · have hbef : Hid (isBefore S ⟨vs, vh, se, sr, te, tr, who⟩ = false) := by
            show (decide _ && decide _) = _
            rw [hE1.out, decide_eq_false e3]; rfl
          have hrcE : Hid (rc = S ∧ rb = false) := by
            have hb : rb = false := by
              rw [← hrb.out, cntB]
              rw [hnow.out, hbef.out, Bool.or_false, Bool.and_false]
            refine ⟨?_, hb⟩
            rw [← hrc.out, cntS, hrb.out, hb]
            rfl
          have LD := hide (load_obj Try.underlying66 infoLS rfl HG2.out.at_)
          obtain ⟨w6, hrun, ho6, ha6⟩ := store_obj (P := Try.prog) (ty := 66) (n := 13) (cs := (lcells S.j S.e b1 n d1 b2 n d2).toList) infoLS rfl rfl (lcells_one _ _ _ _ _ _ _ _) HT2.out.at_
          have HQ1 := hide (HR1'.out.aside ha6 (fun b off e => by have := (F1.out b off e).2; omega))
          have HQ2 := hide (HR2'.out.aside ha6 (fun b off e => by have := (F2.out b off e).2; omega))
          have HN6 := hide (HNW.out.trans (ha6.old _ HNW.out.size (by omega)))
          have hrun' := hide hrun
          have ho6' := hide ho6
          clear hrun ho6 ha6
          go_wp2_with (first | refine wpList_load_at 66 (.tmp 10) rfl rfl _ rfl _ LD.out ?_ | refine wpList_store_at 66 (.tmp 8) (.tmp 29) rfl rfl _ _ rfl rfl w6 hrun'.out ?_)
          all_goals exact ret_struct2 rfl rfl (show _ = Value.bool false from rfl) ho6'.out Try.underlying66 infoLS rfl ⟨b1, d1, b2, d2, by rw [hrcE.out.1, hrcE.out.2], by rw [hrcE.out.1]; exact HQ1.out, by rw [hrcE.out.1]; exact HQ2.out, fun b off e => by have := (F1.out b off e).2; omega, fun b off e => by have := (F2.out b off e).2; omega, HN6.out⟩
    · have hp' := hide hp
      clear hp
      refine startG (fun w' => Below w2.heap.size w2 w') 15 (by kernel_rfl) (Below.refl _ _).drew ?_
      refine takeG (i := 0) (v := .agg #[.slice a n c, .int .i64 s, .int .i64 b]) rfl rfl (by kernel_rfl) (by kernel_rfl) (by kernel_rfl) (by kernel_rfl) (fun _ _ _ h => h) (Or.inl ⟨by kernel_rfl, fun w' hSw => Or.inl ⟨w', ?_, hSw⟩⟩) ?_
      · have hl := hxs.out w' hSw; go_simp
      simp only [List.set_cons_succ, List.set_cons_zero]
      refine takeG (i := 1) (v := .agg (vcells vs vh se sr te tr a3 l3 c3)) rfl rfl (by kernel_rfl) (by kernel_rfl) (by kernel_rfl) (by kernel_rfl) (fun _ _ _ h => h) (Or.inl ⟨by kernel_rfl, fun w' hSw => Or.inl ⟨w', ?_, hSw⟩⟩) ?_
      · have hl := hos.out w' hSw; go_simp
      simp only [List.set_cons_succ, List.set_cons_zero]
      refine takeG (i := 2) (v := .bool true) rfl rfl (by kernel_rfl) (by kernel_rfl) (by kernel_rfl) (by kernel_rfl) (fun _ _ _ h => h) (Or.inl ⟨by kernel_rfl, fun w' hSw => doesOf rfl (by kernel_rfl) fun K hK => ?_⟩) ?_
      · go_simp
        refine (HRT.out _ hSw).mono ?_
        rintro e w2 ⟨rfl, hb⟩
        exact hK.out _ (hSw.trans (hb.mono hSw.size))
      simp only [List.set_cons_succ, List.set_cons_zero]
      refine takeG (i := 3) (v := .bool false) rfl rfl (by kernel_rfl) (by kernel_rfl) (by kernel_rfl) (by kernel_rfl) (fun _ _ _ h => h) (Or.inl ⟨by kernel_rfl, fun w' hSw => Or.inl ⟨w', ?_, hSw⟩⟩) ?_
      · go_simp
      simp only [List.set_cons_succ, List.set_cons_zero]
      refine takeG (i := 4) (v := .bool false) rfl rfl (by kernel_rfl) (by kernel_rfl) (by kernel_rfl) (by kernel_rfl) (fun _ _ _ h => h) (Or.inl ⟨by kernel_rfl, fun w' hSw => Or.inl ⟨w', ?_, hSw⟩⟩) ?_
      · go_simp
      simp only [List.set_cons_succ, List.set_cons_zero]
      refine takeG (i := 5) (v := .pointer (some ⟨w.heap.size + 1 + 1, 4, none⟩)) rfl rfl (by kernel_rfl) (by kernel_rfl) (by kernel_rfl) (by kernel_rfl) (fun _ _ _ h => h) (Or.inl ⟨by kernel_rfl, fun w' hSw => Or.inl ⟨w', ?_, hSw⟩⟩) ?_
      · go_simp
      simp only [List.set_cons_succ, List.set_cons_zero]
      refine takeG (i := 6) (v := .agg (pcells te tr)) rfl rfl (by kernel_rfl) (by kernel_rfl) (by kernel_rfl) (by kernel_rfl) (fun _ _ _ h => h) (Or.inl ⟨by kernel_rfl, fun w' hSw => Or.inl ⟨w', ?_, hSw⟩⟩) ?_
      · have hl := hos.out w' hSw; go_simp
      simp only [List.set_cons_succ, List.set_cons_zero]
      refine takeG (i := 7) (v := .agg #[.slice a n c, .int .i64 s, .int .i64 b]) rfl rfl (by kernel_rfl) (by kernel_rfl) (by kernel_rfl) (by kernel_rfl) (fun _ _ _ h => h) (Or.inl ⟨by kernel_rfl, fun w' hSw => Or.inl ⟨w', ?_, hSw⟩⟩) ?_
      · have hl := hxs.out w' hSw; go_simp
      simp only [List.set_cons_succ, List.set_cons_zero]
      refine takeG (i := 8) (v := .pointer (some ⟨w.heap.size + 1 + 1, 4, none⟩)) rfl rfl (by kernel_rfl) (by kernel_rfl) (by kernel_rfl) (by kernel_rfl) (fun _ _ _ h => h) (Or.inl ⟨by kernel_rfl, fun w' hSw => Or.inl ⟨w', ?_, hSw⟩⟩) ?_
      · go_simp
      simp only [List.set_cons_succ, List.set_cons_zero]
      refine takeG (i := 9) (v := .pointer (some ⟨w.heap.size + 1 + 1, 4, none⟩)) rfl rfl (by kernel_rfl) (by kernel_rfl) (by kernel_rfl) (by kernel_rfl) (fun _ _ _ h => h) (Or.inl ⟨by kernel_rfl, fun w' hSw => Or.inl ⟨w', ?_, hSw⟩⟩) ?_
      · go_simp
      simp only [List.set_cons_succ, List.set_cons_zero]
      refine takeG (i := 10) (v := .int .i64 te) rfl rfl (by kernel_rfl) (by kernel_rfl) (by kernel_rfl) (by kernel_rfl) (fun _ _ _ h => h) (Or.inl ⟨by kernel_rfl, fun w' hSw => Or.inl ⟨w', ?_, hSw⟩⟩) ?_
      · have hl := hos.out w' hSw; go_simp
      simp only [List.set_cons_succ, List.set_cons_zero]
      refine takeG (i := 11) (v := chv F cap) rfl rfl (by kernel_rfl) (by kernel_rfl) (by kernel_rfl) (by kernel_rfl) (fun _ _ _ h => h) (Or.inl ⟨by kernel_rfl, fun w' hSw => Or.inl ⟨w', ?_, hSw⟩⟩) ?_
      · go_simp
      simp only [List.set_cons_succ, List.set_cons_zero]
      refine takeG (i := 12) (v := .agg (pcells (lo0 te) Y)) rfl rfl (by kernel_rfl) (by kernel_rfl) (by kernel_rfl) (by kernel_rfl) (fun _ _ _ h => h) (Or.inl ⟨by kernel_rfl, fun w' hSw => doesOf rfl (by kernel_rfl) fun K hK => ?_⟩) ?_
      · go_simp
        refine (HCK.out _ hSw).mono ?_
        rintro e w2 ⟨rfl, hb⟩
        exact hK.out _ (hSw.trans (hb.mono hSw.size))
      simp only [List.set_cons_succ, List.set_cons_zero]
      refine takeG (i := 13) (v := .bool true) rfl rfl (by kernel_rfl) (by kernel_rfl) (by kernel_rfl) (by kernel_rfl) (fun _ _ _ h => h) (Or.inl ⟨by kernel_rfl, fun w' hSw => Or.inl ⟨w', ?_, hSw⟩⟩) ?_
      · go_simp; exact fun q h => hp'.out ⟨q, h⟩
      simp only [List.set_cons_succ, List.set_cons_zero]
      refine takeG (i := 14) (v := .bool true) rfl rfl (by kernel_rfl) (by kernel_rfl) (by kernel_rfl) (by kernel_rfl) (fun _ _ _ h => h) (Or.inl ⟨by kernel_rfl, fun w' hSw => Or.inl ⟨w', ?_, hSw⟩⟩) ?_
      · go_simp
      simp only [List.set_cons_succ, List.set_cons_zero]
      refine doneG (by kernel_rfl) fun w' hSw => ?_
      have hpt : Hid (onPoint s f ⟨vs, vh, se, sr, te, tr, who⟩ = false) := by
        show decide _ = false
        rw [hY.out]
        exact decide_eq_false hp'.out
      clear hp'
      have hbel := hSw
      have hx := hxs.out w' hbel
      have ho := hos.out w' hbel
      have hNw := hin.out w' hbel
      replace HT2 := hide (HT2.out.below hbel)
      replace HG2 := hide (HG2.out.below hbel)
      replace HS2 := hide (HS2.out.below hbel)
      replace HR1' := hide (HR1'.out.below hbel)
      replace HR2' := hide (HR2'.out.below hbel)
      have HNW := hide hNw
      have hsz5 : g < w'.heap.size := by have := Below.size hbel; omega
      clear hSw hbel hxs hos hin HRT HCK HX2 HO2 HN2 hsz2 hNw
      have hrcE : Hid (rc = S ∧ rb = false) := by
        have hb : rb = false := by rw [← hrb.out]; rw [cntB, hpt.out, Bool.and_false]; rfl
        refine ⟨?_, hb⟩
        rw [← hrc.out, cntS, hrb.out, hb]
        rfl
      have LD := hide (load_obj Try.underlying66 infoLS rfl HG2.out.at_)
      obtain ⟨w6, hrun, ho6, ha6⟩ := store_obj (P := Try.prog) (ty := 66) (n := 13) (cs := (lcells S.j S.e b1 n d1 b2 n d2).toList) infoLS rfl rfl (lcells_one _ _ _ _ _ _ _ _) HT2.out.at_
      have HQ1 := hide (HR1'.out.aside ha6 (fun b off e => by have := (F1.out b off e).2; omega))
      have HQ2 := hide (HR2'.out.aside ha6 (fun b off e => by have := (F2.out b off e).2; omega))
      have HN6 := hide (HNW.out.trans (ha6.old _ HNW.out.size (by omega)))
      have hrun' := hide hrun
      have ho6' := hide ho6
      clear hrun ho6 ha6
      go_wp2_with (first | refine wpList_load_at 66 (.tmp 10) rfl rfl _ rfl _ LD.out ?_ | refine wpList_store_at 66 (.tmp 8) (.tmp 28) rfl rfl _ _ rfl rfl w6 hrun'.out ?_)
      all_goals exact ret_struct2 rfl rfl (show _ = Value.bool false from rfl) ho6'.out Try.underlying66 infoLS rfl ⟨b1, d1, b2, d2, by rw [hrcE.out.1, hrcE.out.2], by rw [hrcE.out.1]; exact HQ1.out, by rw [hrcE.out.1]; exact HQ2.out, fun b off e => by have := (F1.out b off e).2; omega, fun b off e => by have := (F2.out b off e).2; omega, HN6.out⟩
end Go.Proofs.Ytphahkjjmomjcaa

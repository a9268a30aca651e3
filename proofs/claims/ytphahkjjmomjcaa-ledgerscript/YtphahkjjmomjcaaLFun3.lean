/- Contracts of ledger's end and Pull. -/
import Derived.Test.YtphahkjjmomjcaaLFun

namespace Go.Proofs.Ytphahkjjmomjcaa

open Go.ChangeShapes Go.WideShapes Go.ChangeAt Go.RowKit

set_option linter.unusedVariables false

theorem infoJS : (Try.prog.info? 64).map (·.size) = some 10 := by kernel_rfl
theorem jcells_one (j : JS) : ∀ v ∈ j.cells.toList, v.oneCell' = true := by simp [Value.oneCell']
abbrev jobj (j : JS) : Obj := .cells j.cells 64
theorem next_cells (j : JS) (e : Int) (before now : Bool) (e1 r1 e2 r2 : Int) : nextC j.b0 j.b1 j.b2 j.pe j.pr j.ce j.cr j.fe j.fr e before now e1 r1 e2 r2 = (j.next e before now e1 r1 e2 r2).cells := rfl
theorem wrap64_b (x : Int) : I64s (wrap64 x) := by unfold I64s wrap64; omega

set_option maxRecDepth 100000 in
set_option maxHeartbeats 2000000 in
theorem end_led (F : Nat) (cap : Array Value) (f : Int → Int) (a : Option Addr) (l c : Nat) (s b : Int) (j : JS) (e : Int) (before now : Bool) (w : World) (hF : Enters F) (hC : ChainOf w F cap f) (he : I64s e) (hs : I64s s) :
    Calls Try.prog 52 #[.agg #[.slice a l c, .int .i64 s, .int .i64 b], .agg j.cells, .int .i64 e, .bool before, .bool now, chv F cap] w fun x w' => x = .returned (.agg (endJ f s j e before now).cells) ∧ Below w.heap.size w w' := by
  have HX := hide (((OAt.new w (cfg a l c s b)).alloc (jobj j)).alloc (jobj jz))
  have HJ := hide ((OAt.new (w.alloc (cfg a l c s b)) (jobj j)).alloc (jobj jz))
  have HT := hide (OAt.new ((w.alloc (cfg a l c s b)).alloc (jobj j)) (jobj jz))
  have HN := hide ((((Below.refl _ w).alloc (Nat.le_refl _) (cfg a l c s b)).alloc (by simp) (jobj j)).alloc (by simp; omega) (jobj jz))
  simp only [World.size_alloc] at HJ HT
  have HC := hide hC
  clear hC
  go_enter Try.func52, Try.ntmps52
  go_upto_region 1 with fail
  rw [show (#[Value.bool false, Value.bool false, Value.bool false, Value.bool false, Value.int IntKind.i64 0, Value.int IntKind.u64 0, Value.int IntKind.i64 0, Value.int IntKind.u64 0, Value.int IntKind.i64 0, Value.int IntKind.u64 0] : Array Value) = jz.cells from rfl]
  generalize hW : ((w.alloc (cfg a l c s b)).alloc (jobj j)).alloc (jobj jz) = W at HX HJ HT HN
  have hWs : W.heap.size = w.heap.size + 1 + 1 + 1 := by rw [← hW]; simp
  clear hW
  by_cases h2 : e < 2
  · have e1 : Hid (endJ f s j e before now = j) := if_pos h2
    have LD := hide (load_obj Try.underlying64 infoJS rfl HJ.out.at_)
    obtain ⟨w6, hrun, ho6, ha6⟩ := store_obj (P := Try.prog) (ty := 64) (n := 10) (cs := j.cells.toList) infoJS rfl rfl (jcells_one _) HT.out.at_
    have HN6 := hide (HN.out.trans (ha6.old _ HN.out.size (by omega)))
    have HW := hide hrun
    clear hrun ha6
    go_wp2_with (first | refine wpList_load_at 64 (.tmp 7) rfl rfl _ rfl _ LD.out ?_ | refine wpList_store_at 64 (.tmp 12) (.tmp 15) rfl rfl _ _ rfl rfl w6 HW.out ?_)
    exact ret_struct rfl rfl ho6 Try.underlying64 infoJS rfl ⟨by rw [e1.out], HN6.out⟩
  · have e1 : Hid ((j.next e before now (lo0 (wrap64 (e - 1))) (f (stI (wrap64 (e - 1)) s)) (lo0 e) (f (stI e s))) = endJ f s j e before now) := (if_neg h2).symm
    obtain ⟨r1, hr1⟩ : ∃ x, Hid (f (stI (wrap64 (e - 1)) s) = x) := ⟨_, rfl⟩
    obtain ⟨r2, hr2⟩ : ∃ x, Hid (f (stI e s) = x) := ⟨_, rfl⟩
    rw [hr1.out, hr2.out] at e1
    have hcs : Hid (∀ w', Below W.heap.size W w' → w'.cell? ⟨w.heap.size, 0, none⟩ = some (.slice a l c) ∧ w'.cell? ⟨w.heap.size, 1, none⟩ = some (.int .i64 s) ∧ w'.cell? ⟨w.heap.size, 2, none⟩ = some (.int .i64 b)) := fun w' h => by
      have V := HX.out.below h
      exact ⟨V.cell 0, V.cell 1, V.cell 2⟩
    have hjs : Hid (∀ w', Below W.heap.size W w' → (Instr.loadAt 64 (.pointer (some ⟨w.heap.size + 1, 0, none⟩))).run Try.prog w' = .ok (.agg j.cells) w') := fun w' h =>
      load_obj Try.underlying64 infoJS rfl (HJ.out.below h).at_
    have hch : Hid (∀ w', Below W.heap.size W w' → ChainOf w' F cap f) := fun w' h => HC.out.below (HN.out.trans (h.mono HN.out.size))
    have hw1 := wrap64_b (e - 1)
    have hwr : IntKind.i64.wrap (e - 1) = wrap64 (e - 1) := by rw [IntKind.wrap_i64]; unfold wrap64; omega
    go_wp2_with fail
    refine startG (fun w' => Below W.heap.size W w') 14 (by kernel_rfl) (Below.refl _ _).drew ?_
    refine takeG (i := 0) (v := .agg j.cells) rfl rfl (by kernel_rfl) (by kernel_rfl) (by kernel_rfl) (by kernel_rfl) (fun _ _ _ h => h) (Or.inl ⟨by kernel_rfl, fun w' hSw => doesLoad 64 (.tmp 7) rfl _ _ rfl (hjs.out w' hSw) hSw⟩) ?_
    simp only [List.set_cons_succ, List.set_cons_zero]
    refine takeG (i := 1) (v := .int .i64 e) rfl rfl (by kernel_rfl) (by kernel_rfl) (by kernel_rfl) (by kernel_rfl) (fun _ _ _ h => h) (Or.inl ⟨by kernel_rfl, fun w' hSw => Or.inl ⟨w', ?_, hSw⟩⟩) ?_
    · go_simp
    simp only [List.set_cons_succ, List.set_cons_zero]
    refine takeG (i := 2) (v := .bool before) rfl rfl (by kernel_rfl) (by kernel_rfl) (by kernel_rfl) (by kernel_rfl) (fun _ _ _ h => h) (Or.inl ⟨by kernel_rfl, fun w' hSw => Or.inl ⟨w', ?_, hSw⟩⟩) ?_
    · go_simp
    simp only [List.set_cons_succ, List.set_cons_zero]
    refine takeG (i := 3) (v := .bool now) rfl rfl (by kernel_rfl) (by kernel_rfl) (by kernel_rfl) (by kernel_rfl) (fun _ _ _ h => h) (Or.inl ⟨by kernel_rfl, fun w' hSw => Or.inl ⟨w', ?_, hSw⟩⟩) ?_
    · go_simp
    simp only [List.set_cons_succ, List.set_cons_zero]
    refine takeG (i := 4) (v := .agg #[.slice a l c, .int .i64 s, .int .i64 b]) rfl rfl (by kernel_rfl) (by kernel_rfl) (by kernel_rfl) (by kernel_rfl) (fun _ _ _ h => h) (Or.inl ⟨by kernel_rfl, fun w' hSw => Or.inl ⟨w', ?_, hSw⟩⟩) ?_
    · have hl := hcs.out w' hSw; go_simp
    simp only [List.set_cons_succ, List.set_cons_zero]
    refine takeG (i := 5) (v := .int .i64 e) rfl rfl (by kernel_rfl) (by kernel_rfl) (by kernel_rfl) (by kernel_rfl) (fun _ _ _ h => h) (Or.inl ⟨by kernel_rfl, fun w' hSw => Or.inl ⟨w', ?_, hSw⟩⟩) ?_
    · go_simp
    simp only [List.set_cons_succ, List.set_cons_zero]
    refine takeG (i := 6) (v := .int .i64 (wrap64 (e - 1))) rfl rfl (by kernel_rfl) (by kernel_rfl) (by kernel_rfl) (by kernel_rfl) (fun _ _ _ h => h) (Or.inl ⟨by kernel_rfl, fun w' hSw => Or.inl ⟨w', ?_, hSw⟩⟩) ?_
    · go_simp
    simp only [List.set_cons_succ, List.set_cons_zero]
    refine takeG (i := 7) (v := chv F cap) rfl rfl (by kernel_rfl) (by kernel_rfl) (by kernel_rfl) (by kernel_rfl) (fun _ _ _ h => h) (Or.inl ⟨by kernel_rfl, fun w' hSw => Or.inl ⟨w', ?_, hSw⟩⟩) ?_
    · go_simp
    simp only [List.set_cons_succ, List.set_cons_zero]
    refine takeG (i := 8) (v := .agg (pcells (lo0 (wrap64 (e - 1))) r1)) rfl rfl (by kernel_rfl) (by kernel_rfl) (by kernel_rfl) (by kernel_rfl) (fun _ _ _ h => h) (Or.inl ⟨by kernel_rfl, fun w' hSw => doesOf rfl (by kernel_rfl) fun K hK => ?_⟩) ?_
    · go_simp
      refine (check_any F cap f _ _ _ _ _ _ _ hF (hch.out _ hSw) hw1 hs).mono ?_
      rintro e w2 ⟨rfl, hb⟩
      rw [hr1.out]
      exact hK.out _ (hSw.trans (hb.mono hSw.size))
    simp only [List.set_cons_succ, List.set_cons_zero]
    refine takeG (i := 9) (v := .agg #[.slice a l c, .int .i64 s, .int .i64 b]) rfl rfl (by kernel_rfl) (by kernel_rfl) (by kernel_rfl) (by kernel_rfl) (fun _ _ _ h => h) (Or.inl ⟨by kernel_rfl, fun w' hSw => Or.inl ⟨w', ?_, hSw⟩⟩) ?_
    · have hl := hcs.out w' hSw; go_simp
    simp only [List.set_cons_succ, List.set_cons_zero]
    refine takeG (i := 10) (v := .int .i64 e) rfl rfl (by kernel_rfl) (by kernel_rfl) (by kernel_rfl) (by kernel_rfl) (fun _ _ _ h => h) (Or.inl ⟨by kernel_rfl, fun w' hSw => Or.inl ⟨w', ?_, hSw⟩⟩) ?_
    · go_simp
    simp only [List.set_cons_succ, List.set_cons_zero]
    refine takeG (i := 11) (v := chv F cap) rfl rfl (by kernel_rfl) (by kernel_rfl) (by kernel_rfl) (by kernel_rfl) (fun _ _ _ h => h) (Or.inl ⟨by kernel_rfl, fun w' hSw => Or.inl ⟨w', ?_, hSw⟩⟩) ?_
    · go_simp
    simp only [List.set_cons_succ, List.set_cons_zero]
    refine takeG (i := 12) (v := .agg (pcells (lo0 e) r2)) rfl rfl (by kernel_rfl) (by kernel_rfl) (by kernel_rfl) (by kernel_rfl) (fun _ _ _ h => h) (Or.inl ⟨by kernel_rfl, fun w' hSw => doesOf rfl (by kernel_rfl) fun K hK => ?_⟩) ?_
    · go_simp
      refine (check_any F cap f _ _ _ _ _ _ _ hF (hch.out _ hSw) he hs).mono ?_
      rintro e w2 ⟨rfl, hb⟩
      rw [hr2.out]
      exact hK.out _ (hSw.trans (hb.mono hSw.size))
    simp only [List.set_cons_succ, List.set_cons_zero]
    refine takeG (i := 13) (v := .agg (endJ f s j e before now).cells) rfl rfl (by kernel_rfl) (by kernel_rfl) (by kernel_rfl) (by kernel_rfl) (fun _ _ _ h => h) (Or.inl ⟨by kernel_rfl, fun w' hSw => doesOf rfl (by kernel_rfl) fun K hK => ?_⟩) ?_
    · go_simp
      refine (next_any _ _ _ _ _ _ _ _ _ _ _ _ _ _ _ _ _ _).mono ?_
      rintro e w2 ⟨rfl, hb⟩
      rw [next_cells, e1.out]
      exact hK.out _ (hSw.trans (hb.mono hSw.size))
    simp only [List.set_cons_succ, List.set_cons_zero]
    refine lastG (oz := _) (by kernel_rfl) rfl (by kernel_rfl) fun w' hSw K hK => ?_
    obtain ⟨w6, hrun, ho6, ha6⟩ := store_obj (P := Try.prog) (ty := 64) (n := 10) (cs := (endJ f s j e before now).cells.toList) infoJS rfl rfl (jcells_one _) (HT.out.below hSw).at_
    have HN6 := hide ((HN.out.trans (Below.mono hSw (by omega))).trans (ha6.old _ (by have := Below.size hSw; omega) (by omega)))
    refine step_store_at 64 (.tmp 12) (.tmp 29) rfl rfl _ _ rfl rfl w6 hrun ?_
    refine hK.out _ _ ?_
    clear hK K hrun ha6 hcs hjs hch hSw
    go_wp2
    exact ret_struct rfl rfl ho6 Try.underlying64 infoJS rfl ⟨rfl, HN6.out⟩

theorem load_js {w : World} {g : Nat} {j : JS} {e : Int} {a1 : Option Addr} {l1 c1 : Nat} {a2 : Option Addr} {l2 c2 : Nat} (h : OAt w g (lobj j e a1 l1 c1 a2 l2 c2)) : (Instr.loadAt 64 (.pointer (some ⟨g, 0, none⟩))).run Try.prog w = .ok (.agg j.cells) w :=
  load_mid (P := Try.prog) (cs := j.cells.toList) Try.underlying64 infoJS rfl fun k hk => by
    rw [Nat.zero_add, h.cell k]
    match k, hk with
    | 0, _ => rfl
    | 1, _ => rfl
    | 2, _ => rfl
    | 3, _ => rfl
    | 4, _ => rfl
    | 5, _ => rfl
    | 6, _ => rfl
    | 7, _ => rfl
    | 8, _ => rfl
    | 9, _ => rfl

set_option maxRecDepth 100000 in
set_option maxHeartbeats 2000000 in
theorem pull_led (bs : List Int) (vs us : List Bool) (F : Nat) (cap : Array Value) (f : Int → Int) (a : Option Addr) (l c : Nat) (s b : Int) (j : JS) (e : Int) (a1 : Option Addr) (l1 c1 : Nat) (a2 : Option Addr) (l2 c2 : Nat) (w : World)
    (hB : RowIn .u64 w a l c bs) (hu : ∀ z ∈ bs, 0 ≤ z ∧ z ≤ 18446744073709551615) (hV : RowB w a1 l1 c1 vs) (hU : RowB w a2 l2 c2 us) (hl1 : l1 ≤ 4096) (hl2 : l2 ≤ 4096) (hF : Enters F) (hC : ChainOf w F cap f) (he : I64s e) (hs : I64s s) :
    Calls Try.prog 35 #[.agg #[.slice a l c, .int .i64 s, .int .i64 b], .agg (lcells j e a1 l1 c1 a2 l2 c2), chv F cap] w fun x w' => x = .returned (.agg (pullJ bs s f ⟨j, e, vs, us⟩).cells) ∧ Below w.heap.size w w' := by
  have HX := hide (((OAt.new w (cfg a l c s b)).alloc (lobj j e a1 l1 c1 a2 l2 c2)).alloc (jobj jz))
  have HS := hide ((OAt.new (w.alloc (cfg a l c s b)) (lobj j e a1 l1 c1 a2 l2 c2)).alloc (jobj jz))
  have HT := hide (OAt.new ((w.alloc (cfg a l c s b)).alloc (lobj j e a1 l1 c1 a2 l2 c2)) (jobj jz))
  have HN := hide ((((Below.refl _ w).alloc (Nat.le_refl _) (cfg a l c s b)).alloc (by simp) (lobj j e a1 l1 c1 a2 l2 c2)).alloc (by simp; omega) (jobj jz))
  simp only [World.size_alloc] at HS HT
  go_enter Try.func35, Try.ntmps35
  go_upto_region 1 with fail
  rw [show (#[Value.bool false, Value.bool false, Value.bool false, Value.bool false, Value.int IntKind.i64 0, Value.int IntKind.u64 0, Value.int IntKind.i64 0, Value.int IntKind.u64 0, Value.int IntKind.i64 0, Value.int IntKind.u64 0] : Array Value) = jz.cells from rfl]
  generalize hW : ((w.alloc (cfg a l c s b)).alloc (lobj j e a1 l1 c1 a2 l2 c2)).alloc (jobj jz) = W at HX HS HT HN
  have hWs : W.heap.size = w.heap.size + 1 + 1 + 1 := by rw [← hW]; simp
  clear hW
  have hcs : Hid (∀ w', Below W.heap.size W w' → w'.cell? ⟨w.heap.size, 0, none⟩ = some (.slice a l c) ∧ w'.cell? ⟨w.heap.size, 1, none⟩ = some (.int .i64 s) ∧ w'.cell? ⟨w.heap.size, 2, none⟩ = some (.int .i64 b)) := fun w' h => by
    have V := HX.out.below h
    exact ⟨V.cell 0, V.cell 1, V.cell 2⟩
  have hls : Hid (∀ w', Below W.heap.size W w' → w'.cell? ⟨w.heap.size + 1, 10, none⟩ = some (.int .i64 e) ∧ w'.cell? ⟨w.heap.size + 1, 11, none⟩ = some (.slice a1 l1 c1) ∧ w'.cell? ⟨w.heap.size + 1, 12, none⟩ = some (.slice a2 l2 c2)) := fun w' h => by
    have V := HS.out.below h
    exact ⟨V.cell 10, V.cell 11, V.cell 12⟩
  have hjs : Hid (∀ w', Below W.heap.size W w' → (Instr.loadAt 64 (.pointer (some ⟨w.heap.size + 1, 0, none⟩))).run Try.prog w' = .ok (.agg j.cells) w') := fun w' h => load_js (HS.out.below h)
  have hin : Hid (∀ w', Below W.heap.size W w' → Below w.heap.size w w') := fun w' h => HN.out.trans (h.mono HN.out.size)
  have hB' := hide hB
  have hV' := hide hV
  have hU' := hide hU
  have hC' := hide hC
  have hu' := hide hu
  clear hB hV hU hC hu
  obtain ⟨x1, hx1⟩ : ∃ x, Hid (en bs vs = x) := ⟨_, rfl⟩
  obtain ⟨x2, hx2⟩ : ∃ x, Hid (en bs us = x) := ⟨_, rfl⟩
  have e1 : Hid (pullJ bs s f ⟨j, e, vs, us⟩ = endJ f s j e x1 x2) := by rw [← hx1.out, ← hx2.out]; exact hide rfl
  refine startG (fun w' => Below W.heap.size W w') 15 (by kernel_rfl) (Below.refl _ _).drew ?_
  refine takeG (i := 0) (v := .agg #[.slice a l c, .int .i64 s, .int .i64 b]) rfl rfl (by kernel_rfl) (by kernel_rfl) (by kernel_rfl) (by kernel_rfl) (fun _ _ _ h => h) (Or.inl ⟨by kernel_rfl, fun w' hSw => Or.inl ⟨w', ?_, hSw⟩⟩) ?_
  · have hl := hcs.out w' hSw; go_simp
  simp only [List.set_cons_succ, List.set_cons_zero]
  refine takeG (i := 1) (v := .pointer (some ⟨w.heap.size + 1, 0, none⟩)) rfl rfl (by kernel_rfl) (by kernel_rfl) (by kernel_rfl) (by kernel_rfl) (fun _ _ _ h => h) (Or.inl ⟨by kernel_rfl, fun w' hSw => Or.inl ⟨w', ?_, hSw⟩⟩) ?_
  · go_simp
  simp only [List.set_cons_succ, List.set_cons_zero]
  refine takeG (i := 2) (v := .agg j.cells) rfl rfl (by kernel_rfl) (by kernel_rfl) (by kernel_rfl) (by kernel_rfl) (fun _ _ _ h => h) (Or.inl ⟨by kernel_rfl, fun w' hSw => doesLoad 64 (.tmp 8) rfl _ _ rfl (hjs.out w' hSw) hSw⟩) ?_
  simp only [List.set_cons_succ, List.set_cons_zero]
  refine takeG (i := 3) (v := .pointer (some ⟨w.heap.size + 1, 10, none⟩)) rfl rfl (by kernel_rfl) (by kernel_rfl) (by kernel_rfl) (by kernel_rfl) (fun _ _ _ h => h) (Or.inl ⟨by kernel_rfl, fun w' hSw => Or.inl ⟨w', ?_, hSw⟩⟩) ?_
  · go_simp
  simp only [List.set_cons_succ, List.set_cons_zero]
  refine takeG (i := 4) (v := .int .i64 e) rfl rfl (by kernel_rfl) (by kernel_rfl) (by kernel_rfl) (by kernel_rfl) (fun _ _ _ h => h) (Or.inl ⟨by kernel_rfl, fun w' hSw => Or.inl ⟨w', ?_, hSw⟩⟩) ?_
  · have hl := hls.out w' hSw; go_simp
  simp only [List.set_cons_succ, List.set_cons_zero]
  refine takeG (i := 5) (v := .agg #[.slice a l c, .int .i64 s, .int .i64 b]) rfl rfl (by kernel_rfl) (by kernel_rfl) (by kernel_rfl) (by kernel_rfl) (fun _ _ _ h => h) (Or.inl ⟨by kernel_rfl, fun w' hSw => Or.inl ⟨w', ?_, hSw⟩⟩) ?_
  · have hl := hcs.out w' hSw; go_simp
  simp only [List.set_cons_succ, List.set_cons_zero]
  refine takeG (i := 6) (v := .pointer (some ⟨w.heap.size + 1, 11, none⟩)) rfl rfl (by kernel_rfl) (by kernel_rfl) (by kernel_rfl) (by kernel_rfl) (fun _ _ _ h => h) (Or.inl ⟨by kernel_rfl, fun w' hSw => Or.inl ⟨w', ?_, hSw⟩⟩) ?_
  · go_simp
  simp only [List.set_cons_succ, List.set_cons_zero]
  refine takeG (i := 7) (v := .slice a1 l1 c1) rfl rfl (by kernel_rfl) (by kernel_rfl) (by kernel_rfl) (by kernel_rfl) (fun _ _ _ h => h) (Or.inl ⟨by kernel_rfl, fun w' hSw => Or.inl ⟨w', ?_, hSw⟩⟩) ?_
  · have hl := hls.out w' hSw; go_simp
  simp only [List.set_cons_succ, List.set_cons_zero]
  refine takeG (i := 8) (v := .bool x1) rfl rfl (by kernel_rfl) (by kernel_rfl) (by kernel_rfl) (by kernel_rfl) (fun _ _ _ h => h) (Or.inl ⟨by kernel_rfl, fun w' hSw => doesOf rfl (by kernel_rfl) fun K hK => ?_⟩) ?_
  · go_simp
    refine (enough_led bs vs _ _ _ _ _ _ _ _ _ (hB'.out.below (hin.out _ hSw)) hu'.out (hV'.out.below (hin.out _ hSw)) hl1).mono ?_
    rintro e w2 ⟨rfl, hb⟩
    rw [hx1.out]
    exact hK.out _ (hSw.trans (hb.mono hSw.size))
  simp only [List.set_cons_succ, List.set_cons_zero]
  refine takeG (i := 9) (v := .agg #[.slice a l c, .int .i64 s, .int .i64 b]) rfl rfl (by kernel_rfl) (by kernel_rfl) (by kernel_rfl) (by kernel_rfl) (fun _ _ _ h => h) (Or.inl ⟨by kernel_rfl, fun w' hSw => Or.inl ⟨w', ?_, hSw⟩⟩) ?_
  · have hl := hcs.out w' hSw; go_simp
  simp only [List.set_cons_succ, List.set_cons_zero]
  refine takeG (i := 10) (v := .pointer (some ⟨w.heap.size + 1, 12, none⟩)) rfl rfl (by kernel_rfl) (by kernel_rfl) (by kernel_rfl) (by kernel_rfl) (fun _ _ _ h => h) (Or.inl ⟨by kernel_rfl, fun w' hSw => Or.inl ⟨w', ?_, hSw⟩⟩) ?_
  · go_simp
  simp only [List.set_cons_succ, List.set_cons_zero]
  refine takeG (i := 11) (v := .slice a2 l2 c2) rfl rfl (by kernel_rfl) (by kernel_rfl) (by kernel_rfl) (by kernel_rfl) (fun _ _ _ h => h) (Or.inl ⟨by kernel_rfl, fun w' hSw => Or.inl ⟨w', ?_, hSw⟩⟩) ?_
  · have hl := hls.out w' hSw; go_simp
  simp only [List.set_cons_succ, List.set_cons_zero]
  refine takeG (i := 12) (v := .bool x2) rfl rfl (by kernel_rfl) (by kernel_rfl) (by kernel_rfl) (by kernel_rfl) (fun _ _ _ h => h) (Or.inl ⟨by kernel_rfl, fun w' hSw => doesOf rfl (by kernel_rfl) fun K hK => ?_⟩) ?_
  · go_simp
    refine (enough_led bs us _ _ _ _ _ _ _ _ _ (hB'.out.below (hin.out _ hSw)) hu'.out (hU'.out.below (hin.out _ hSw)) hl2).mono ?_
    rintro e w2 ⟨rfl, hb⟩
    rw [hx2.out]
    exact hK.out _ (hSw.trans (hb.mono hSw.size))
  simp only [List.set_cons_succ, List.set_cons_zero]
  refine takeG (i := 13) (v := chv F cap) rfl rfl (by kernel_rfl) (by kernel_rfl) (by kernel_rfl) (by kernel_rfl) (fun _ _ _ h => h) (Or.inl ⟨by kernel_rfl, fun w' hSw => Or.inl ⟨w', ?_, hSw⟩⟩) ?_
  · go_simp
  simp only [List.set_cons_succ, List.set_cons_zero]
  refine takeG (i := 14) (v := .agg (endJ f s j e x1 x2).cells) rfl rfl (by kernel_rfl) (by kernel_rfl) (by kernel_rfl) (by kernel_rfl) (fun _ _ _ h => h) (Or.inl ⟨by kernel_rfl, fun w' hSw => doesOf rfl (by kernel_rfl) fun K hK => ?_⟩) ?_
  · go_simp
    refine (end_led F cap f _ _ _ _ _ _ _ _ _ _ hF (hC'.out.below (hin.out _ hSw)) he hs).mono ?_
    rintro e w2 ⟨rfl, hb⟩
    exact hK.out _ (hSw.trans (hb.mono hSw.size))
  simp only [List.set_cons_succ, List.set_cons_zero]
  refine lastG (oz := _) (by kernel_rfl) rfl (by kernel_rfl) fun w' hSw K hK => ?_
  obtain ⟨w6, hrun, ho6, ha6⟩ := store_obj (P := Try.prog) (ty := 64) (n := 10) (cs := (endJ f s j e x1 x2).cells.toList) infoJS rfl rfl (jcells_one _) (HT.out.below hSw).at_
  have HN6 := hide ((HN.out.trans (Below.mono hSw (by omega))).trans (ha6.old _ (by have := Below.size hSw; omega) (by omega)))
  refine step_store_at 64 (.tmp 6) (.tmp 21) rfl rfl _ _ rfl rfl w6 hrun ?_
  refine hK.out _ _ ?_
  clear hK K hrun ha6 hcs hjs hls hin hSw
  go_wp2
  exact ret_struct rfl rfl ho6 Try.underlying64 infoJS rfl ⟨by rw [e1.out], HN6.out⟩

theorem wrote_js (j J : JS) (e : Int) (a1 : Option Addr) (l1 c1 : Nat) (a2 : Option Addr) (l2 c2 : Nat) : wrote (lcells j e a1 l1 c1 a2 l2 c2) 0 J.cells.toList = lcells J e a1 l1 c1 a2 l2 c2 := by kernel_rfl
theorem set_le (j : JS) (e e' : Int) (a1 : Option Addr) (l1 c1 : Nat) (a2 : Option Addr) (l2 c2 : Nat) : (lcells j e a1 l1 c1 a2 l2 c2).setIfInBounds 10 (.int .i64 e') = lcells j e' a1 l1 c1 a2 l2 c2 := rfl
theorem set_l1 (j : JS) (e : Int) (a1 : Option Addr) (l1 c1 : Nat) (a2 : Option Addr) (l2 c2 : Nat) (a3 : Option Addr) (l3 c3 : Nat) : (lcells j e a1 l1 c1 a2 l2 c2).setIfInBounds 11 (.slice a3 l3 c3) = lcells j e a3 l3 c3 a2 l2 c2 := rfl
theorem set_l2 (j : JS) (e : Int) (a1 : Option Addr) (l1 c1 : Nat) (a2 : Option Addr) (l2 c2 : Nat) (a3 : Option Addr) (l3 c3 : Nat) : (lcells j e a1 l1 c1 a2 l2 c2).setIfInBounds 12 (.slice a3 l3 c3) = lcells j e a1 l1 c1 a3 l3 c3 := rfl
/-- a part of a state is written -/
theorem OAt.js {w : World} {g : Nat} {j J : JS} {e : Int} {a1 : Option Addr} {l1 c1 : Nat} {a2 : Option Addr} {l2 c2 : Nat} (h : w.heap[g]? = some (.cells (wrote (lcells j e a1 l1 c1 a2 l2 c2) 0 J.cells.toList) 66 (0, 0))) : OAt w g (lobj J e a1 l1 c1 a2 l2 c2) := by
  rw [wrote_js] at h
  exact OAt.of h
theorem OAt.setE {w : World} {g : Nat} {j : JS} {e : Int} {a1 : Option Addr} {l1 c1 : Nat} {a2 : Option Addr} {l2 c2 : Nat} (h : OAt w g (lobj j e a1 l1 c1 a2 l2 c2)) (e' : Int) : OAt (w.setCell ⟨g, 10, none⟩ (.int .i64 e')) g (lobj j e' a1 l1 c1 a2 l2 c2) := by
  have k := OAt.set h 10 (.int .i64 e')
  rw [set_le] at k
  exact k
theorem OAt.set1 {w : World} {g : Nat} {j : JS} {e : Int} {a1 : Option Addr} {l1 c1 : Nat} {a2 : Option Addr} {l2 c2 : Nat} (h : OAt w g (lobj j e a1 l1 c1 a2 l2 c2)) (a3 : Option Addr) (l3 c3 : Nat) : OAt (w.setCell ⟨g, 11, none⟩ (.slice a3 l3 c3)) g (lobj j e a3 l3 c3 a2 l2 c2) := by
  have k := OAt.set h 11 (.slice a3 l3 c3)
  rw [set_l1] at k
  exact k
theorem OAt.set2 {w : World} {g : Nat} {j : JS} {e : Int} {a1 : Option Addr} {l1 c1 : Nat} {a2 : Option Addr} {l2 c2 : Nat} (h : OAt w g (lobj j e a1 l1 c1 a2 l2 c2)) (a3 : Option Addr) (l3 c3 : Nat) : OAt (w.setCell ⟨g, 12, none⟩ (.slice a3 l3 c3)) g (lobj j e a1 l1 c1 a3 l3 c3) := by
  have k := OAt.set h 12 (.slice a3 l3 c3)
  rw [set_l2] at k
  exact k
theorem OAt.soft {w : World} {g : Nat} {C : Array Value} {t : TypeId} (h : OAt w g (.cells C t (0, 0))) (i : Nat) : w.frozen? ⟨g, i, none⟩ = false := by unfold World.frozen?; rw [h.at_]; simp
/-- the cells of a state that are not of what is justified -/
theorem OAt.lc {w : World} {g : Nat} {j : JS} {e : Int} {a1 : Option Addr} {l1 c1 : Nat} {a2 : Option Addr} {l2 c2 : Nat} (h : OAt w g (lobj j e a1 l1 c1 a2 l2 c2)) : w.cell? ⟨g, 10, none⟩ = some (.int .i64 e) ∧ w.cell? ⟨g, 11, none⟩ = some (.slice a1 l1 c1) ∧ w.cell? ⟨g, 12, none⟩ = some (.slice a2 l2 c2) := ⟨h.cell 10, h.cell 11, h.cell 12⟩
end Go.Proofs.Ytphahkjjmomjcaa

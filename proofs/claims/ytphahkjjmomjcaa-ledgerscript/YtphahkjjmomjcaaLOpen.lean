/- Contract of ledger.Open. -/
import Derived.Test.YtphahkjjmomjcaaLFun2

import Derived.Test.YtphahkjjmomjcaaLFun3

namespace Go.Proofs.Ytphahkjjmomjcaa

open Go.ChangeShapes Go.WideShapes Go.ChangeAt Go.RowKit

set_option linter.unusedVariables false

set_option maxRecDepth 100000 in
set_option maxHeartbeats 4000000 in
theorem open_led (a : Option Addr) (n c : Nat) (s b r : Int) (w : World) (hn : n ≤ 4096) :
    Calls Try.prog 26 #[.agg #[.slice a n c, .int .i64 s, .int .i64 b], .int .u64 r] w fun x w' =>
      ∃ g1 g2, x = .returned (.agg (lcells (JS.first r) 0 (some ⟨g1, 0, none⟩) n n (some ⟨g2, 0, none⟩) n n)) ∧ OAt w' g1 (bobj (List.replicate n false)) ∧ OAt w' g2 (bobj (List.replicate n false)) ∧ g1 < g2 ∧ w.heap.size ≤ g1 ∧ Below w.heap.size w w' := by
  have HX := hide (((OAt.new w (cfg a n c s b)).alloc (lobj jz 0 none 0 0 none 0 0)).alloc (.cells (pcells 0 r) 62))
  have HT := hide ((OAt.new (w.alloc (cfg a n c s b)) (lobj jz 0 none 0 0 none 0 0)).alloc (.cells (pcells 0 r) 62))
  have HP := hide (OAt.new ((w.alloc (cfg a n c s b)).alloc (lobj jz 0 none 0 0 none 0 0)) (.cells (pcells 0 r) 62))
  have HN := hide ((((Below.refl _ w).alloc (Nat.le_refl _) (cfg a n c s b)).alloc (by simp) (lobj jz 0 none 0 0 none 0 0)).alloc (by simp; omega) (.cells (pcells 0 r) 62))
  simp only [World.size_alloc] at HT HP
  go_enter Try.func26, Try.ntmps26
  go_upto_region 1 with fail
  rw [show (#[Value.bool false, Value.bool false, Value.bool false, Value.bool false, Value.int IntKind.i64 0, Value.int IntKind.u64 0, Value.int IntKind.i64 0, Value.int IntKind.u64 0, Value.int IntKind.i64 0, Value.int IntKind.u64 0, Value.int IntKind.i64 0, Value.slice none 0 0, Value.slice none 0 0] : Array Value) = lcells jz 0 none 0 0 none 0 0 from rfl]
  go_upto_region 2 with fail
  generalize hW : ((w.alloc (cfg a n c s b)).alloc (lobj jz 0 none 0 0 none 0 0)).alloc (.cells (pcells 0 r) 62) = W at HX HT HP HN
  have hWs : W.heap.size = w.heap.size + 1 + 1 + 1 := by rw [← hW]; simp
  clear hW
  have hcs : Hid (∀ w', Apart (w.heap.size + 1) W w' → w'.cell? ⟨w.heap.size, 0, none⟩ = some (.slice a n c) ∧ w'.cell? ⟨w.heap.size, 1, none⟩ = some (.int .i64 s) ∧ w'.cell? ⟨w.heap.size, 2, none⟩ = some (.int .i64 b) ∧ w'.cell? ⟨w.heap.size + 1 + 1, 0, none⟩ = some (.int .i64 0) ∧ w'.cell? ⟨w.heap.size + 1 + 1, 1, none⟩ = some (.int .u64 r)) := fun w' h => by
    have V := HX.out.apart h (by omega)
    have U := HP.out.apart h (by omega)
    exact ⟨V.cell 0, V.cell 1, V.cell 2, U.cell 0, U.cell 1⟩
  have hbd : Hid (Below W.heap.size W W.drew) := hide (Below.refl _ _).drew
  refine wp_region_noPanic ?_
  refine wp_region_held_drew (S := fun w' => Apart (w.heap.size + 1) W w') (by kernel_rfl) (Apart.of hbd.out) (fun hHeld => ?_)
  refine take_set (i := 0) (v := .agg (pcells 0 r)) rfl rfl (by kernel_rfl) (by kernel_rfl) (by kernel_rfl) (fun _ _ _ h => h) (Or.inl ⟨by kernel_rfl, fun w' hSw => ?_⟩) hHeld ?_
  · have hl := hcs.out w' hSw; go_simp
  simp only [List.set_cons_succ, List.set_cons_zero]
  refine take_set (i := 1) (v := .agg (pcells 0 r)) rfl rfl (by kernel_rfl) (by kernel_rfl) (by kernel_rfl) (fun _ _ _ h => h) (Or.inl ⟨by kernel_rfl, fun w' hSw => ?_⟩) hHeld ?_
  · have hl := hcs.out w' hSw; go_simp
  simp only [List.set_cons_succ, List.set_cons_zero]
  refine take_set (i := 2) (v := .agg (pcells 0 r)) rfl rfl (by kernel_rfl) (by kernel_rfl) (by kernel_rfl) (fun _ _ _ h => h) (Or.inl ⟨by kernel_rfl, fun w' hSw => ?_⟩) hHeld ?_
  · have hl := hcs.out w' hSw; go_simp
  simp only [List.set_cons_succ, List.set_cons_zero]
  refine take_set (i := 3) (v := .agg (JS.first r).cells) rfl rfl (by kernel_rfl) (by kernel_rfl) (by kernel_rfl) (fun _ _ _ h => h) (Or.inl ⟨by kernel_rfl, fun w' hSw => ?_⟩) hHeld ?_
  · go_simp; exact ⟨rfl, rfl, rfl, rfl, rfl, rfl, rfl, rfl, rfl, rfl⟩
  simp only [List.set_cons_succ, List.set_cons_zero]
  refine take_set (i := 4) (v := .agg #[.slice a n c, .int .i64 s, .int .i64 b]) rfl rfl (by kernel_rfl) (by kernel_rfl) (by kernel_rfl) (fun _ _ _ h => h) (Or.inl ⟨by kernel_rfl, fun w' hSw => ?_⟩) hHeld ?_
  · have hl := hcs.out w' hSw; go_simp
  simp only [List.set_cons_succ, List.set_cons_zero]
  refine take_set (i := 6) (v := .agg #[.slice a n c, .int .i64 s, .int .i64 b]) rfl rfl (by kernel_rfl) (by kernel_rfl) (by kernel_rfl) (fun _ _ _ h => h) (Or.inl ⟨by kernel_rfl, fun w' hSw => ?_⟩) hHeld ?_
  · have hl := hcs.out w' hSw; go_simp
  simp only [List.set_cons_succ, List.set_cons_zero]
  refine wpAnyH_ready (rs := [5]) (by kernel_rfl) (by simp) ?_
  refine AllReadyH.cons (o := _) rfl (fun K hK => ?_) AllReadyH.nil
  go_simp
  refine (nobody_any a n c s b _ hn).mono ?_
  rintro e1 w1 ⟨g1, rfl, o1, l1, hbel⟩
  replace hbd := hide (hbd.out.trans (hbel.mono hbd.out.size))
  have O1 := hide o1
  have L1 : Hid (W.heap.size ≤ g1) := hide l1
  clear hbel o1 l1
  refine hK.out _ _ (Apart.of hbd.out) (fun hHeld => ?_)
  clear hK K
  refine wpAnyH_ready (rs := [7]) (by kernel_rfl) (by simp) ?_
  refine AllReadyH.cons (o := _) rfl (fun K hK => ?_) AllReadyH.nil
  go_simp
  refine (nobody_any a n c s b _ hn).mono ?_
  rintro e2 w2 ⟨g2, rfl, o2, l2, hbel⟩
  have h12 : Hid (g1 < g2) := Nat.lt_of_lt_of_le O1.out.lt l2
  replace hbd := hide (hbd.out.trans (hbel.mono hbd.out.size))
  replace O1 := hide (O1.out.below hbel)
  have O2 := hide o2
  clear hbel o2 l2
  refine hK.out _ _ (Apart.of hbd.out) (fun hHeld => ?_)
  clear hK K
  refine take_set (i := 8) (v := .agg (lcells (JS.first r) 0 (some ⟨g1, 0, none⟩) n n (some ⟨g2, 0, none⟩) n n)) rfl rfl (by kernel_rfl) (by kernel_rfl) (by kernel_rfl) (fun _ _ _ h => h) (Or.inl ⟨by kernel_rfl, fun w' hSw => ?_⟩) hHeld ?_
  · go_simp
  simp only [List.set_cons_succ, List.set_cons_zero]
  obtain ⟨w6, hrun, ho6, ha6⟩ := store_obj (P := Try.prog) (ty := 66) (n := 13) (cs := (lcells (JS.first r) 0 (some ⟨g1, 0, none⟩) n n (some ⟨g2, 0, none⟩) n n).toList) infoLS rfl rfl (lcells_one _ _ _ _ _ _ _ _) (HT.out.below hbd.out).at_
  have L2 := L1.out
  have L3 := h12.out
  have Q1 := hide (O1.out.apart ha6 (by omega))
  have Q2 := hide (O2.out.apart ha6 (by omega))
  have HN6 := hide ((HN.out.trans (hbd.out.mono (by omega))).trans (ha6.old _ (by have := hbd.out.size; omega) (by omega)))
  refine wpAnyH_ready (rs := [9]) (by kernel_rfl) (by simp) ?_
  refine AllReadyH.cons (o := _) rfl (fun K hK => ?_) AllReadyH.nil
  refine step_store_at 66 (.tmp 4) (.tmp 16) rfl rfl _ _ rfl rfl w6 hrun ?_
  refine hK.out _ _ ((Apart.of hbd.out).trans ha6) (fun hHeld => ?_)
  clear hK K
  refine wpAnyH_done (by kernel_rfl) ?_ _
  refine NoPanic.normal ?_
  clear hrun ha6 hcs hbd hHeld
  go_wp2
  exact ret_struct rfl rfl ho6 Try.underlying66 infoLS rfl ⟨g1, g2, rfl, Q1.out, Q2.out, L3, by omega, HN6.out⟩
end Go.Proofs.Ytphahkjjmomjcaa

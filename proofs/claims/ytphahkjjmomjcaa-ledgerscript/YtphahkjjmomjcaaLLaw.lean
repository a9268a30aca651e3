/- Contracts of psephoslaw10's sum, point and pull. -/
import Derived.Test.YtphahkjjmomjcaaLFun3

namespace Go.Proofs.Ytphahkjjmomjcaa

open Go.ChangeShapes Go.WideShapes Go.ChangeAt Go.RowKit

set_option linter.unusedVariables false

theorem sums_snoc (bs l : List Int) (v : Int) : sums bs (l ++ [v]) = if 0 ≤ v ∧ v < bs.length then (sums bs l + bs.getD v.toNat 0) % 18446744073709551616 else sums bs l := by
  unfold sums
  rw [List.foldl_append]
  rfl

set_option maxRecDepth 100000 in
set_option maxHeartbeats 1000000 in
theorem sum_law (bs : List Int) (vs : List Bool) (a : Option Addr) (n c : Nat) (s b : Int) (a2 : Option Addr) (c2 : Nat) (w : World) (hB : RowIn .u64 w a n c bs) (hV : RowB w a2 n c2 vs) :
    Calls Try.prog 55 #[.agg #[.slice a n c, .int .i64 s, .int .i64 b], .slice a2 n c2] w fun e w' => e = .returned (.int .u64 (sums bs (idx vs))) ∧ Below w.heap.size w w' := by
  have hvl := hV.len
  have hbl := hB.len
  have hvc := hV.cap
  unfold maxLen at hvc
  have HB := hide (hB.alloc (cfg a n c s b))
  have HV := hide (hV.alloc (cfg a n c s b))
  have HN := hide ((Below.refl w.heap.size w).alloc (Nat.le_refl _) (cfg a n c s b))
  have hc0 := (OAt.new w (cfg a n c s b)).cell 0
  simp only [List.getElem?_toArray, List.getElem?_cons_zero] at hc0
  clear hB hV
  go_enter Try.func55, Try.ntmps55
  go_wp2
  go_loop [5, 10] (fun x i => ∃ k : Nat, k ≤ n ∧ i = .int .i64 k ∧ x = .int .u64 (sums bs (idxK vs k))) (fun x i => n - (intOf i).toNat)
  case atStart => exact ⟨0, Nat.zero_le _, rfl, rfl⟩
  case round =>
    obtain ⟨k, hk, rfl, rfl⟩ := hrel
    by_cases hlt : k < n
    · obtain ⟨g, off, rfl, hbs, hcn⟩ := HV.out.cell k hlt
      by_cases hx : vs.getD k false = true
      · rw [hx] at hcn
        obtain ⟨g1, off1, rfl, hbs1, hcn1⟩ := HB.out.cell k hlt
        have ht := sums_snoc bs (idxK vs k) k
        rw [← idxK_in vs k hx, if_pos ⟨by omega, by omega⟩, Int.toNat_natCast] at ht
        obtain ⟨y, hy⟩ : ∃ y, Hid (bs.getD k 0 = y) := ⟨_, rfl⟩
        rw [hy.out] at hcn1 ht
        have HTt := hide ht
        clear ht
        go_wp2
        go_round
        case rel => exact ⟨k + 1, by omega, by go_num, by rw [HTt.out, IntKind.wrap_u64]⟩
        case measure => simp [intOf]; omega
      · have hx : vs.getD k false = false := by simpa using hx
        rw [hx] at hcn
        have hout := hide (idxK_out vs k hx)
        go_wp2
        go_round
        case rel => exact ⟨k + 1, by omega, by go_num, by rw [hout.out]⟩
        case measure => simp [intOf]; omega
    · have hkk : k = n := by omega
      subst hkk
      have e0 : Hid (idxK vs k = idx vs) := by unfold idx; rw [hvl]; exact hide rfl
      go_wp2
      go_ret
      exact ⟨by rw [e0.out]; rfl, HN.out⟩

set_option maxRecDepth 100000 in
set_option maxHeartbeats 400000 in
theorem point_law (F : Nat) (cap : Array Value) (f : Int → Int) (a : Option Addr) (l c : Nat) (s b e : Int) (w : World) (hF : Enters F) (hC : ChainOf w F cap f) (he : I64s e) (hs : I64s s) :
    Calls Try.prog 30 #[.agg #[.slice a l c, .int .i64 s, .int .i64 b], .int .i64 e, chv F cap] w fun x w' => x = .returned (.agg (pcells e (f (stI e s)))) ∧ Below w.heap.size w w' := by
  have HC := hide ((hC.alloc (cfg a l c s b)).alloc (.cells (pcells 0 0) 62))
  unfold Enters at hF
  have HN := hide (((Below.refl w.heap.size w).alloc (Nat.le_refl _) (cfg a l c s b)).alloc (by simp) (.cells (pcells e (f (stI e s))) 62))
  clear hC
  obtain ⟨R, hR⟩ : ∃ R, Hid (f (stI e s) = R) := ⟨_, rfl⟩
  rw [hR.out] at HN ⊢
  go_enter Try.func30, Try.ntmps30
  go_wp2_with (go_at_call 31; refine (start_any _ _ _ he hs).mono ?_; rintro e w' ⟨rfl, hw⟩; obtain rfl : _ = w' := hw.symm)
  refine (HC.out _ _ (Below.refl _ _) (stI_b e s)).mono ?_
  rintro x w1 ⟨hx, hw1⟩
  obtain rfl : _ = w1 := hw1.symm
  rw [hR.out] at hx
  subst hx
  clear HC hR
  go_wp2
  refine bodyPost_ret (v := .agg (pcells e R)) (by simp [results, Try.results30, go_sem]) rfl ⟨rfl, HN.out⟩

set_option maxRecDepth 100000 in
set_option maxHeartbeats 4000000 in
theorem pull_law (bs : List Int) (vs us : List Bool) (F : Nat) (cap : Array Value) (f : Int → Int) (a : Option Addr) (n c : Nat) (s b : Int) (j : JS) (e : Int) (a1 : Option Addr) (c1 : Nat) (a2 : Option Addr) (c2 : Nat) (w : World)
    (hB : RowIn .u64 w a n c bs) (hu : ∀ z ∈ bs, 0 ≤ z ∧ z ≤ 18446744073709551615) (hV : RowB w a1 n c1 vs) (hU : RowB w a2 n c2 us) (hF : Enters F) (hC : ChainOf w F cap f) (he : I64s e) (hs : I64s s) :
    Calls Try.prog 28 #[.agg #[.slice a n c, .int .i64 s, .int .i64 b], .agg (lcells j e a1 n c1 a2 n c2), chv F cap] w fun x w' => x = .returned (.agg (pullJ bs s f ⟨j, e, vs, us⟩).cells) ∧ Below w.heap.size w w' := by
  have HX := hide (((OAt.new w (cfg a n c s b)).alloc (lobj j e a1 n c1 a2 n c2)).alloc (jobj jz))
  have HS := hide ((OAt.new (w.alloc (cfg a n c s b)) (lobj j e a1 n c1 a2 n c2)).alloc (jobj jz))
  have HT := hide (OAt.new ((w.alloc (cfg a n c s b)).alloc (lobj j e a1 n c1 a2 n c2)) (jobj jz))
  have HN := hide ((((Below.refl _ w).alloc (Nat.le_refl _) (cfg a n c s b)).alloc (by simp) (lobj j e a1 n c1 a2 n c2)).alloc (by simp; omega) (jobj jz))
  simp only [World.size_alloc] at HS HT
  have hB' := hide hB
  have hV' := hide hV
  have hU' := hide hU
  have hC' := hide hC
  have hsb1 := sums_b bs hu (idx vs)
  have hsb2 := sums_b bs hu (idx us)
  have htb := tot_b bs
  clear hB hV hU hC hu
  go_enter Try.func28, Try.ntmps28
  go_upto_region 1 with fail
  rw [show (#[Value.bool false, Value.bool false, Value.bool false, Value.bool false, Value.int IntKind.i64 0, Value.int IntKind.u64 0, Value.int IntKind.i64 0, Value.int IntKind.u64 0, Value.int IntKind.i64 0, Value.int IntKind.u64 0] : Array Value) = jz.cells from rfl]
  generalize hW : ((w.alloc (cfg a n c s b)).alloc (lobj j e a1 n c1 a2 n c2)).alloc (jobj jz) = W at HX HS HT HN
  have hWs : W.heap.size = w.heap.size + 1 + 1 + 1 := by rw [← hW]; simp
  clear hW
  have hl := HS.out.lc
  by_cases h2 : e < 2
  · have e1 : Hid (pullJ bs s f ⟨j, e, vs, us⟩ = j) := if_pos h2
    have LD := hide (load_js HS.out)
    obtain ⟨w6, hrun, ho6, ha6⟩ := store_obj (P := Try.prog) (ty := 64) (n := 10) (cs := j.cells.toList) infoJS rfl rfl (jcells_one _) HT.out.at_
    have HN6 := hide (HN.out.trans (ha6.old _ HN.out.size (by omega)))
    have HW := hide hrun
    clear hrun ha6
    go_wp2_with (first | refine wpList_load_at 64 (.tmp 11) rfl rfl _ rfl _ LD.out ?_ | refine wpList_store_at 64 (.tmp 6) (.tmp 12) rfl rfl _ _ rfl rfl w6 HW.out ?_)
    exact ret_struct rfl rfl ho6 Try.underlying64 infoJS rfl ⟨by rw [e1.out], HN6.out⟩
  · have hc0 := HX.out.cell 0
    have hc1 := HX.out.cell 1
    have hc2 := HX.out.cell 2
    simp only [List.getElem?_toArray, List.getElem?_cons_zero, List.getElem?_cons_succ] at hc0 hc1 hc2
    obtain ⟨T, hT⟩ : ∃ x, Hid (tot bs = x) := ⟨_, rfl⟩
    rw [hT.out] at htb
    go_upto_region 4 with (go_at_call 42; refine (total_any bs _ _ _ _ _ _ (hB'.out.below HN.out)).mono ?_; rintro e' w' ⟨rfl, rfl⟩; rw [hT.out])
    have HX4 := hide (HX.out.alloc (cfg a n c s b))
    have HS4 := hide (HS.out.alloc (cfg a n c s b))
    have HT4 := hide (HT.out.alloc (cfg a n c s b))
    have HN4 := hide (HN.out.alloc HN.out.size (cfg a n c s b))
    have hsz4 : W.heap.size < (W.alloc (cfg a n c s b)).heap.size := by simp
    generalize W.alloc (cfg a n c s b) = V at HX4 HS4 HT4 HN4 hsz4
    clear HX HS HT HN hc0 hc1 hc2 hl
    have hcs : Hid (∀ w', Below V.heap.size V w' → w'.cell? ⟨w.heap.size, 0, none⟩ = some (.slice a n c) ∧ w'.cell? ⟨w.heap.size, 1, none⟩ = some (.int .i64 s) ∧ w'.cell? ⟨w.heap.size, 2, none⟩ = some (.int .i64 b)) := fun w' h => by
      have V := HX4.out.below h
      exact ⟨V.cell 0, V.cell 1, V.cell 2⟩
    have hls : Hid (∀ w', Below V.heap.size V w' → w'.cell? ⟨w.heap.size + 1, 10, none⟩ = some (.int .i64 e) ∧ w'.cell? ⟨w.heap.size + 1, 11, none⟩ = some (.slice a1 n c1) ∧ w'.cell? ⟨w.heap.size + 1, 12, none⟩ = some (.slice a2 n c2)) := fun w' h => (HS4.out.below h).lc
    have hjs : Hid (∀ w', Below V.heap.size V w' → (Instr.loadAt 64 (.pointer (some ⟨w.heap.size + 1, 0, none⟩))).run Try.prog w' = .ok (.agg j.cells) w') := fun w' h => load_js (HS4.out.below h)
    have hin : Hid (∀ w', Below V.heap.size V w' → Below w.heap.size w w') := fun w' h => HN4.out.trans (h.mono HN4.out.size)
    obtain ⟨x1, hx1⟩ : ∃ x, Hid (enB (sums bs (idx vs)) T = x) := ⟨_, rfl⟩
    obtain ⟨x2, hx2⟩ : ∃ x, Hid (enB (sums bs (idx us)) T = x) := ⟨_, rfl⟩
    obtain ⟨s1, hs1⟩ : ∃ x, Hid (sums bs (idx vs) = x) := ⟨_, rfl⟩
    obtain ⟨s2, hs2⟩ : ∃ x, Hid (sums bs (idx us) = x) := ⟨_, rfl⟩
    obtain ⟨r1, hr1⟩ : ∃ x, Hid (f (stI (e - 1) s) = x) := ⟨_, rfl⟩
    obtain ⟨r2, hr2⟩ : ∃ x, Hid (f (stI e s) = x) := ⟨_, rfl⟩
    have hw1 : wrap64 (e - 1) = e - 1 := by unfold I64s at he; unfold wrap64; omega
    have e1 : Hid (j.next e x1 x2 (e - 1) r1 e r2 = pullJ bs s f ⟨j, e, vs, us⟩) := by
      have h : pullJ bs s f ⟨j, e, vs, us⟩ = endJ f s j e (en bs vs) (en bs us) := rfl
      have l1 : lo0 (e - 1) = e - 1 := if_neg (by omega)
      have l2 : lo0 e = e := if_neg (by omega)
      rw [h]
      unfold endJ en
      rw [hT.out, hx1.out, hx2.out, if_neg (show ¬ e < 2 by omega), hw1, hr1.out, hr2.out, l1, l2]
      exact hide rfl
    rw [hs1.out] at hsb1 hx1
    rw [hs2.out] at hsb2 hx2
    have hwr : IntKind.i64.wrap (e - 1) = e - 1 := by unfold I64s at he; rw [IntKind.wrap_i64]; omega
    have hei : I64s (e - 1) := by unfold I64s at he ⊢; omega
    clear hw1
    refine startG (fun w' => Below V.heap.size V w') 28 (by kernel_rfl) (Below.refl _ _).drew ?_
    refine takeG (i := 0) (v := .pointer (some ⟨w.heap.size + 1, 0, none⟩)) rfl rfl (by kernel_rfl) (by kernel_rfl) (by kernel_rfl) (by kernel_rfl) (fun _ _ _ h => h) (Or.inl ⟨by kernel_rfl, fun w' hSw => Or.inl ⟨w', ?_, hSw⟩⟩) ?_
    · go_simp
    simp only [List.set_cons_succ, List.set_cons_zero]
    refine takeG (i := 1) (v := .agg j.cells) rfl rfl (by kernel_rfl) (by kernel_rfl) (by kernel_rfl) (by kernel_rfl) (fun _ _ _ h => h) (Or.inl ⟨by kernel_rfl, fun w' hSw => doesLoad 64 (.tmp 15) rfl _ _ rfl (hjs.out w' hSw) hSw⟩) ?_
    simp only [List.set_cons_succ, List.set_cons_zero]
    refine takeG (i := 2) (v := .pointer (some ⟨w.heap.size + 1, 10, none⟩)) rfl rfl (by kernel_rfl) (by kernel_rfl) (by kernel_rfl) (by kernel_rfl) (fun _ _ _ h => h) (Or.inl ⟨by kernel_rfl, fun w' hSw => Or.inl ⟨w', ?_, hSw⟩⟩) ?_
    · go_simp
    simp only [List.set_cons_succ, List.set_cons_zero]
    refine takeG (i := 3) (v := .int .i64 e) rfl rfl (by kernel_rfl) (by kernel_rfl) (by kernel_rfl) (by kernel_rfl) (fun _ _ _ h => h) (Or.inl ⟨by kernel_rfl, fun w' hSw => Or.inl ⟨w', ?_, hSw⟩⟩) ?_
    · have hl := hls.out w' hSw; go_simp
    simp only [List.set_cons_succ, List.set_cons_zero]
    refine takeG (i := 4) (v := .agg #[.slice a n c, .int .i64 s, .int .i64 b]) rfl rfl (by kernel_rfl) (by kernel_rfl) (by kernel_rfl) (by kernel_rfl) (fun _ _ _ h => h) (Or.inl ⟨by kernel_rfl, fun w' hSw => Or.inl ⟨w', ?_, hSw⟩⟩) ?_
    · have hl := hcs.out w' hSw; go_simp
    simp only [List.set_cons_succ, List.set_cons_zero]
    refine takeG (i := 5) (v := .pointer (some ⟨w.heap.size + 1, 11, none⟩)) rfl rfl (by kernel_rfl) (by kernel_rfl) (by kernel_rfl) (by kernel_rfl) (fun _ _ _ h => h) (Or.inl ⟨by kernel_rfl, fun w' hSw => Or.inl ⟨w', ?_, hSw⟩⟩) ?_
    · go_simp
    simp only [List.set_cons_succ, List.set_cons_zero]
    refine takeG (i := 6) (v := .slice a1 n c1) rfl rfl (by kernel_rfl) (by kernel_rfl) (by kernel_rfl) (by kernel_rfl) (fun _ _ _ h => h) (Or.inl ⟨by kernel_rfl, fun w' hSw => Or.inl ⟨w', ?_, hSw⟩⟩) ?_
    · have hl := hls.out w' hSw; go_simp
    simp only [List.set_cons_succ, List.set_cons_zero]
    refine takeG (i := 7) (v := .int .u64 s1) rfl rfl (by kernel_rfl) (by kernel_rfl) (by kernel_rfl) (by kernel_rfl) (fun _ _ _ h => h) (Or.inl ⟨by kernel_rfl, fun w' hSw => doesOf rfl (by kernel_rfl) fun K hK => ?_⟩) ?_
    · go_simp
      refine (sum_law bs vs a n c s b a1 c1 _ (hB'.out.below (hin.out _ hSw)) (hV'.out.below (hin.out _ hSw))).mono ?_
      rintro e w2 ⟨rfl, hb⟩
      rw [hs1.out]
      exact hK.out _ (hSw.trans (hb.mono hSw.size))
    simp only [List.set_cons_succ, List.set_cons_zero]
    refine takeG (i := 8) (v := .int .u64 T) rfl rfl (by kernel_rfl) (by kernel_rfl) (by kernel_rfl) (by kernel_rfl) (fun _ _ _ h => h) (Or.inl ⟨by kernel_rfl, fun w' hSw => Or.inl ⟨w', ?_, hSw⟩⟩) ?_
    · go_simp
    simp only [List.set_cons_succ, List.set_cons_zero]
    refine takeG (i := 9) (v := .bool x1) rfl rfl (by kernel_rfl) (by kernel_rfl) (by kernel_rfl) (by kernel_rfl) (fun _ _ _ h => h) (Or.inl ⟨by kernel_rfl, fun w' hSw => doesOf rfl (by kernel_rfl) fun K hK => ?_⟩) ?_
    · go_simp
      refine (enough_any _ _ _ hsb1 htb).mono ?_
      rintro e w2 ⟨rfl, hw⟩
      rw [hx1.out]
      exact hK.out _ (by rw [hw]; exact hSw)
    simp only [List.set_cons_succ, List.set_cons_zero]
    refine takeG (i := 10) (v := .agg #[.slice a n c, .int .i64 s, .int .i64 b]) rfl rfl (by kernel_rfl) (by kernel_rfl) (by kernel_rfl) (by kernel_rfl) (fun _ _ _ h => h) (Or.inl ⟨by kernel_rfl, fun w' hSw => Or.inl ⟨w', ?_, hSw⟩⟩) ?_
    · have hl := hcs.out w' hSw; go_simp
    simp only [List.set_cons_succ, List.set_cons_zero]
    refine takeG (i := 11) (v := .pointer (some ⟨w.heap.size + 1, 12, none⟩)) rfl rfl (by kernel_rfl) (by kernel_rfl) (by kernel_rfl) (by kernel_rfl) (fun _ _ _ h => h) (Or.inl ⟨by kernel_rfl, fun w' hSw => Or.inl ⟨w', ?_, hSw⟩⟩) ?_
    · go_simp
    simp only [List.set_cons_succ, List.set_cons_zero]
    refine takeG (i := 12) (v := .slice a2 n c2) rfl rfl (by kernel_rfl) (by kernel_rfl) (by kernel_rfl) (by kernel_rfl) (fun _ _ _ h => h) (Or.inl ⟨by kernel_rfl, fun w' hSw => Or.inl ⟨w', ?_, hSw⟩⟩) ?_
    · have hl := hls.out w' hSw; go_simp
    simp only [List.set_cons_succ, List.set_cons_zero]
    refine takeG (i := 13) (v := .int .u64 s2) rfl rfl (by kernel_rfl) (by kernel_rfl) (by kernel_rfl) (by kernel_rfl) (fun _ _ _ h => h) (Or.inl ⟨by kernel_rfl, fun w' hSw => doesOf rfl (by kernel_rfl) fun K hK => ?_⟩) ?_
    · go_simp
      refine (sum_law bs us a n c s b a2 c2 _ (hB'.out.below (hin.out _ hSw)) (hU'.out.below (hin.out _ hSw))).mono ?_
      rintro e w2 ⟨rfl, hb⟩
      rw [hs2.out]
      exact hK.out _ (hSw.trans (hb.mono hSw.size))
    simp only [List.set_cons_succ, List.set_cons_zero]
    refine takeG (i := 14) (v := .int .u64 T) rfl rfl (by kernel_rfl) (by kernel_rfl) (by kernel_rfl) (by kernel_rfl) (fun _ _ _ h => h) (Or.inl ⟨by kernel_rfl, fun w' hSw => Or.inl ⟨w', ?_, hSw⟩⟩) ?_
    · go_simp
    simp only [List.set_cons_succ, List.set_cons_zero]
    refine takeG (i := 15) (v := .bool x2) rfl rfl (by kernel_rfl) (by kernel_rfl) (by kernel_rfl) (by kernel_rfl) (fun _ _ _ h => h) (Or.inl ⟨by kernel_rfl, fun w' hSw => doesOf rfl (by kernel_rfl) fun K hK => ?_⟩) ?_
    · go_simp
      refine (enough_any _ _ _ hsb2 htb).mono ?_
      rintro e w2 ⟨rfl, hw⟩
      rw [hx2.out]
      exact hK.out _ (by rw [hw]; exact hSw)
    simp only [List.set_cons_succ, List.set_cons_zero]
    refine takeG (i := 16) (v := .agg #[.slice a n c, .int .i64 s, .int .i64 b]) rfl rfl (by kernel_rfl) (by kernel_rfl) (by kernel_rfl) (by kernel_rfl) (fun _ _ _ h => h) (Or.inl ⟨by kernel_rfl, fun w' hSw => Or.inl ⟨w', ?_, hSw⟩⟩) ?_
    · have hl := hcs.out w' hSw; go_simp
    simp only [List.set_cons_succ, List.set_cons_zero]
    refine takeG (i := 17) (v := .pointer (some ⟨w.heap.size + 1, 10, none⟩)) rfl rfl (by kernel_rfl) (by kernel_rfl) (by kernel_rfl) (by kernel_rfl) (fun _ _ _ h => h) (Or.inl ⟨by kernel_rfl, fun w' hSw => Or.inl ⟨w', ?_, hSw⟩⟩) ?_
    · go_simp
    simp only [List.set_cons_succ, List.set_cons_zero]
    refine takeG (i := 18) (v := .int .i64 e) rfl rfl (by kernel_rfl) (by kernel_rfl) (by kernel_rfl) (by kernel_rfl) (fun _ _ _ h => h) (Or.inl ⟨by kernel_rfl, fun w' hSw => Or.inl ⟨w', ?_, hSw⟩⟩) ?_
    · have hl := hls.out w' hSw; go_simp
    simp only [List.set_cons_succ, List.set_cons_zero]
    refine takeG (i := 19) (v := .int .i64 (e - 1)) rfl rfl (by kernel_rfl) (by kernel_rfl) (by kernel_rfl) (by kernel_rfl) (fun _ _ _ h => h) (Or.inl ⟨by kernel_rfl, fun w' hSw => Or.inl ⟨w', ?_, hSw⟩⟩) ?_
    · go_simp
    simp only [List.set_cons_succ, List.set_cons_zero]
    refine takeG (i := 20) (v := chv F cap) rfl rfl (by kernel_rfl) (by kernel_rfl) (by kernel_rfl) (by kernel_rfl) (fun _ _ _ h => h) (Or.inl ⟨by kernel_rfl, fun w' hSw => Or.inl ⟨w', ?_, hSw⟩⟩) ?_
    · go_simp
    simp only [List.set_cons_succ, List.set_cons_zero]
    refine takeG (i := 21) (v := .agg (pcells (e - 1) r1)) rfl rfl (by kernel_rfl) (by kernel_rfl) (by kernel_rfl) (by kernel_rfl) (fun _ _ _ h => h) (Or.inl ⟨by kernel_rfl, fun w' hSw => doesOf rfl (by kernel_rfl) fun K hK => ?_⟩) ?_
    · go_simp
      refine (point_law F cap f a n c s b (e - 1) _ hF (hC'.out.below (hin.out _ hSw)) hei hs).mono ?_
      rintro e w2 ⟨rfl, hb⟩
      rw [hr1.out]
      exact hK.out _ (hSw.trans (hb.mono hSw.size))
    simp only [List.set_cons_succ, List.set_cons_zero]
    refine takeG (i := 22) (v := .agg #[.slice a n c, .int .i64 s, .int .i64 b]) rfl rfl (by kernel_rfl) (by kernel_rfl) (by kernel_rfl) (by kernel_rfl) (fun _ _ _ h => h) (Or.inl ⟨by kernel_rfl, fun w' hSw => Or.inl ⟨w', ?_, hSw⟩⟩) ?_
    · have hl := hcs.out w' hSw; go_simp
    simp only [List.set_cons_succ, List.set_cons_zero]
    refine takeG (i := 23) (v := .pointer (some ⟨w.heap.size + 1, 10, none⟩)) rfl rfl (by kernel_rfl) (by kernel_rfl) (by kernel_rfl) (by kernel_rfl) (fun _ _ _ h => h) (Or.inl ⟨by kernel_rfl, fun w' hSw => Or.inl ⟨w', ?_, hSw⟩⟩) ?_
    · go_simp
    simp only [List.set_cons_succ, List.set_cons_zero]
    refine takeG (i := 24) (v := .int .i64 e) rfl rfl (by kernel_rfl) (by kernel_rfl) (by kernel_rfl) (by kernel_rfl) (fun _ _ _ h => h) (Or.inl ⟨by kernel_rfl, fun w' hSw => Or.inl ⟨w', ?_, hSw⟩⟩) ?_
    · have hl := hls.out w' hSw; go_simp
    simp only [List.set_cons_succ, List.set_cons_zero]
    refine takeG (i := 25) (v := chv F cap) rfl rfl (by kernel_rfl) (by kernel_rfl) (by kernel_rfl) (by kernel_rfl) (fun _ _ _ h => h) (Or.inl ⟨by kernel_rfl, fun w' hSw => Or.inl ⟨w', ?_, hSw⟩⟩) ?_
    · go_simp
    simp only [List.set_cons_succ, List.set_cons_zero]
    refine takeG (i := 26) (v := .agg (pcells e r2)) rfl rfl (by kernel_rfl) (by kernel_rfl) (by kernel_rfl) (by kernel_rfl) (fun _ _ _ h => h) (Or.inl ⟨by kernel_rfl, fun w' hSw => doesOf rfl (by kernel_rfl) fun K hK => ?_⟩) ?_
    · go_simp
      refine (point_law F cap f a n c s b e _ hF (hC'.out.below (hin.out _ hSw)) he hs).mono ?_
      rintro e w2 ⟨rfl, hb⟩
      rw [hr2.out]
      exact hK.out _ (hSw.trans (hb.mono hSw.size))
    simp only [List.set_cons_succ, List.set_cons_zero]
    refine takeG (i := 27) (v := .agg (pullJ bs s f ⟨j, e, vs, us⟩).cells) rfl rfl (by kernel_rfl) (by kernel_rfl) (by kernel_rfl) (by kernel_rfl) (fun _ _ _ h => h) (Or.inl ⟨by kernel_rfl, fun w' hSw => doesOf rfl (by kernel_rfl) fun K hK => ?_⟩) ?_
    · go_simp
      refine (next_any _ _ _ _ _ _ _ _ _ _ _ _ _ _ _ _ _ _).mono ?_
      rintro e w2 ⟨rfl, hb⟩
      rw [next_cells, e1.out]
      exact hK.out _ (hSw.trans (hb.mono hSw.size))
    simp only [List.set_cons_succ, List.set_cons_zero]
    refine lastG (oz := _) (by kernel_rfl) rfl (by kernel_rfl) fun w' hSw K hK => ?_
    obtain ⟨w6, hrun, ho6, ha6⟩ := store_obj (P := Try.prog) (ty := 64) (n := 10) (cs := (pullJ bs s f ⟨j, e, vs, us⟩).cells.toList) infoJS rfl rfl (jcells_one _) (HT4.out.below hSw).at_
    have HN6 := hide ((HN4.out.trans (Below.mono hSw (by omega))).trans (ha6.old _ (by have := Below.size hSw; omega) (by omega)))
    refine step_store_at 64 (.tmp 6) (.tmp 42) rfl rfl _ _ rfl rfl w6 hrun ?_
    refine hK.out _ _ ?_
    clear hK K hrun ha6 hcs hjs hls hin hSw
    go_wp2
    exact ret_struct rfl rfl ho6 Try.underlying64 infoJS rfl ⟨rfl, HN6.out⟩
end Go.Proofs.Ytphahkjjmomjcaa

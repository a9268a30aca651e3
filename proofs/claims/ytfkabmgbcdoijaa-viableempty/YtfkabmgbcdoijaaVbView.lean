/- Contract of psephoslaw13.View. -/
import Derived.Test.YtfkabmgbcdoijaaVbOf

namespace Go.Proofs.Ytfkabmgbcdoijaa

open Go.ChangeShapes Go.WideShapes Go.ChangeAt Go.RowKit Go.Maps

set_option linter.unusedVariables false

theorem infoV : (Try.prog.info? 34).map (·.size) = some 6 := by kernel_rfl
theorem vw_one (je jr fe fr ep : Int) (b : Option Nat) : ∀ v ∈ (vwC je jr fe fr ep (.map b)).toList, v.oneCell' = true := by
  intro v hv
  simp at hv
  rcases hv with rfl | rfl | rfl | rfl | rfl | rfl <;> rfl
/-- what View hands back -/
def ViewOf (w : World) (je fr ep : Int) (e : Ending) (w' : World) : Prop :=
  ∃ b n f, e = .returned (.agg (vwC je 1 0 fr ep (.map (some b)))) ∧ MapP w' b n f ∧ (∀ r, (f r).getD 0 ≤ 6) ∧ w.heap.size ≤ b ∧ Below w.heap.size w w'
set_option maxRecDepth 100000 in
set_option maxHeartbeats 4000000 in
theorem view_any (ms : List Nod) (a : Option Addr) (m c : Nat) (ss : List Int) (sa : Option Addr) (l sc : Nat) (j fi now : Int) (w : World) (hN : NRow w a m ms) (hm : 0 < m ∧ m ≤ 4096) (hS : RowIn .u8 w sa l sc ss) (hu : ∀ z ∈ ss, 0 ≤ z ∧ z ≤ 255)
    (hj : 0 ≤ j ∧ j ≤ 255) (hfi : 0 ≤ fi ∧ fi ≤ 255) (hnow : 0 ≤ now ∧ now ≤ 255) (hr : ∀ i, i < m → U64 (nd ms i).root) :
    Calls Try.prog 11 #[.slice a m c, .int .u8 j, .int .u8 fi, .int .u8 now, .slice sa l sc] w (ViewOf w (j % 6) (nd ms (fi % m).toNat).root (now % 9)) := by
  have hmm := @run_makeMap Try.prog
  obtain ⟨ng, no, rfl, hng, hcn⟩ := hN.2 hm.1
  have hm0 : ((m : Int) == 0) = false := by simp only [beq_eq_false_iff_ne, ne_eq]; omega
  have hq0 : Hid (0 ≤ fi % (m : Int) ∧ fi % (m : Int) < (m : Int)) := hide ⟨Int.emod_nonneg _ (by omega), Int.emod_lt_of_pos _ (by omega)⟩
  obtain ⟨q, hq⟩ : ∃ q : Nat, fi % (m : Int) = (q : Int) := ⟨(fi % (m : Int)).toNat, by have := hq0.out; omega⟩
  have hqm : q < m := by have := hq0.out; omega
  have hqm1 : (q : Int) < (m : Int) := by omega
  have hqt : (fi % (m : Int)).toNat = q := by omega
  have c0 := hcn q hqm 0 (by omega)
  have hru := hr q hqm
  rw [hqt]
  obtain ⟨fr, hfr⟩ : ∃ x, Hid ((nd ms q).root = x) := ⟨_, rfl⟩
  simp only [nC, List.getElem?_cons_zero, Nat.add_zero, hfr.out] at c0
  rw [hfr.out] at hru ⊢
  have hj6 : 0 ≤ j % 6 ∧ j % 6 ≤ 5 := by omega
  have hn9 : 0 ≤ now % 9 ∧ now % 9 ≤ 8 := by omega
  clear hcn
  obtain ⟨je, hje⟩ : ∃ x, Hid (j % 6 = x) := ⟨_, rfl⟩
  obtain ⟨ep, hep⟩ : ∃ x, Hid (now % 9 = x) := ⟨_, rfl⟩
  go_enter Try.func11, Try.ntmps11
  go_upto_region 2 with fail
  rw [hje.out, hep.out]
  have HZ := hide (OAt.new w (vwO 0 0 0 0 0 (.map none)))
  have HM := hide (MapP.new (w.alloc (vwO 0 0 0 0 0 (.map none))))
  have HX := hide (OAt.new ((w.alloc (vwO 0 0 0 0 0 (.map none))).alloc (.map #[] 0)) (vwO je 1 0 fr ep (.map (some (w.heap.size + 1)))))
  have HB := hide ((((Below.refl w.heap.size w).alloc (Nat.le_refl _) (vwO 0 0 0 0 0 (.map none))).alloc (by simp) (.map #[] 0)).alloc (by simp; omega) (vwO je 1 0 fr ep (.map (some (w.heap.size + 1)))))
  replace HZ := hide ((HZ.out.alloc (.map #[] 0)).alloc (vwO je 1 0 fr ep (.map (some (w.heap.size + 1)))))
  replace HM := hide (HM.out.of ((below_alloc _ (vwO je 1 0 fr ep (.map (some (w.heap.size + 1))))).block _ (by simp)))
  generalize ((w.alloc (vwO 0 0 0 0 0 (.map none))).alloc (.map #[] 0)).alloc (vwO je 1 0 fr ep (.map (some (w.heap.size + 1)))) = W at HZ HM HX HB ⊢
  simp only [World.size_alloc] at HM HX
  obtain ⟨mb, hmb⟩ : ∃ x, Hid (w.heap.size + 1 = x) := ⟨_, rfl⟩
  rw [hmb.out] at HM HX ⊢
  obtain ⟨gx, hgx⟩ : ∃ x, Hid (mb + 1 = x) := ⟨_, rfl⟩
  rw [hgx.out] at HX ⊢
  have HS := hide hS
  have HU := hide hu
  have HR := hide hr
  have HN := hide hN
  have hll := hide hS.len
  have hml : l ≤ 9223372036854775807 := by have := hS.cap; unfold maxLen at this; omega
  have hlm : l ≤ maxLen := Nat.le_trans hS.cap.1 hS.cap.2
  clear hS hu hr hN c0 hru hqm1 hm0 hmm hj6 hn9 hq hq0 hqt hfr hfi hnow hj hqm
  go_wp2
  go_loopw [35] (fun i wr => ∃ k : Nat, i = .int .i64 (k : Int) ∧ k ≤ l ∧ Hid (∃ f, MapP wr mb k f ∧ (∀ r, (f r).getD 0 ≤ 6) ∧ OAt wr w.heap.size (vwO 0 0 0 0 0 (.map none)) ∧ OAt wr gx (vwO je 1 0 fr ep (.map (some mb))) ∧ Below w.heap.size w wr)) (fun i _ => l - (intOf i).toNat)
  case atStart => exact ⟨0, rfl, Nat.zero_le _, hide ⟨_, HM.out, fun r => Nat.zero_le _, HZ.out, HX.out, HB.out⟩⟩
  case round =>
    clear HM HZ HX HB
    obtain ⟨k, rfl, hk, hI⟩ := hrel
    obtain ⟨f, h1, h2, h3, h4, h5⟩ := hI.out
    have HM := hide h1
    have HF := hide h2
    have HZ := hide h3
    have HX := hide h4
    have HB := hide h5
    clear hI h1 h2 h3 h4 h5
    by_cases hlt : k < l
    · obtain ⟨b, off, rfl, hgs, hcz⟩ := (HS.out.below HB.out).cell k hlt
      have hub := HU.out (ss.getD k 0) (by
        have := hll.out
        rw [List.getD_eq_getElem?_getD, List.getElem?_eq_getElem (by omega)]; exact List.getElem_mem _)
      generalize ss.getD k 0 = z at hcz hub
      have hkl : (k : Int) < (l : Int) := by omega
      by_cases hkm : k < m
      · have hkm1 : (k : Int) < (m : Int) := by omega
        obtain ⟨ng2, no2, e2, hng2, hcn2⟩ := (HN.out.below HB.out).2 hm.1
        cases e2
        have hc0 := hcn2 k hkm 0 (by omega)
        have hru := HR.out k hkm
        simp only [nC, List.getElem?_cons_zero, Nat.add_zero] at hc0
        generalize (nd ms k).root = x at hc0 hru
        obtain ⟨i, hi⟩ : ∃ i : Nat, z % 7 = (i : Int) := ⟨(z % 7).toNat, by omega⟩
        have hi6 : i ≤ 6 := by omega
        have hi7 : z.tmod 7 = (i : Int) := by rw [Int.tmod_eq_emod_of_nonneg hub.1]; exact hi
        have hi8 : IntKind.i64.wrap (i : Int) = (i : Int) := by simp [IntKind.wrap, IntKind.bits, IntKind.signed]; omega
        go_upto_region 6 with fail
        have HC := hide (fun w' (h : Below wr.heap.size wr w') => show w'.cell? ⟨ng, no + k * 3, none⟩ = some (.int .u64 x) from (h.cell (p := ⟨ng, no + k * 3, none⟩) hng2).trans hc0)
        have HC3 := hide (fun w' (h : Below wr.heap.size wr w') => show w'.cell? ⟨gx, 3 + 2, none⟩ = some (.map (some mb)) from (HX.out.below h).cell 5)
        refine startG (fun w' => Below wr.heap.size wr w') 10 (by kernel_rfl) (Below.refl _ _).drew ?_
        refine takeG (i := 0) (v := .pointer (some ⟨gx, 5, none⟩)) rfl rfl (by kernel_rfl) (by kernel_rfl) (by kernel_rfl) (by kernel_rfl) (fun _ _ _ h => h) (Or.inl ⟨by kernel_rfl, fun w' hSw => Or.inl ⟨w', ?_, hSw⟩⟩) ?_
        · go_simp
        simp only [List.set_cons_succ, List.set_cons_zero]
        refine takeG (i := 1) (v := .map (some mb)) rfl rfl (by kernel_rfl) (by kernel_rfl) (by kernel_rfl) (by kernel_rfl) (fun _ _ _ h => h) (Or.inl ⟨by kernel_rfl, fun w' hSw => Or.inl ⟨w', ?_, hSw⟩⟩) ?_
        · have hl := HC3.out w' hSw; go_simp
        simp only [List.set_cons_succ, List.set_cons_zero]
        refine takeG (i := 2) (v := .slice (some ⟨ng, no, none⟩) m c) rfl rfl (by kernel_rfl) (by kernel_rfl) (by kernel_rfl) (by kernel_rfl) (fun _ _ _ h => h) (Or.inl ⟨by kernel_rfl, fun w' hSw => Or.inl ⟨w', ?_, hSw⟩⟩) ?_
        · go_simp
        simp only [List.set_cons_succ, List.set_cons_zero]
        refine takeG (i := 3) (v := .int .i64 (k : Int)) rfl rfl (by kernel_rfl) (by kernel_rfl) (by kernel_rfl) (by kernel_rfl) (fun _ _ _ h => h) (Or.inl ⟨by kernel_rfl, fun w' hSw => Or.inl ⟨w', ?_, hSw⟩⟩) ?_
        · go_simp
        simp only [List.set_cons_succ, List.set_cons_zero]
        refine takeG (i := 4) (v := .pointer (some ⟨ng, no + k * 3, none⟩)) rfl rfl (by kernel_rfl) (by kernel_rfl) (by kernel_rfl) (by kernel_rfl) (fun _ _ _ h => h) (Or.inl ⟨by kernel_rfl, fun w' hSw => Or.inl ⟨w', ?_, hSw⟩⟩) ?_
        · go_simp
        simp only [List.set_cons_succ, List.set_cons_zero]
        refine takeG (i := 5) (v := .pointer (some ⟨ng, no + k * 3, none⟩)) rfl rfl (by kernel_rfl) (by kernel_rfl) (by kernel_rfl) (by kernel_rfl) (fun _ _ _ h => h) (Or.inl ⟨by kernel_rfl, fun w' hSw => Or.inl ⟨w', ?_, hSw⟩⟩) ?_
        · go_simp
        simp only [List.set_cons_succ, List.set_cons_zero]
        refine takeG (i := 6) (v := .int .u64 x) rfl rfl (by kernel_rfl) (by kernel_rfl) (by kernel_rfl) (by kernel_rfl) (fun _ _ _ h => h) (Or.inl ⟨by kernel_rfl, fun w' hSw => Or.inl ⟨w', ?_, hSw⟩⟩) ?_
        · have hl := HC.out w' hSw; go_simp
        simp only [List.set_cons_succ, List.set_cons_zero]
        refine takeG (i := 7) (v := .int .u8 z) rfl rfl (by kernel_rfl) (by kernel_rfl) (by kernel_rfl) (by kernel_rfl) (fun _ _ _ h => h) (Or.inl ⟨by kernel_rfl, fun w' hSw => Or.inl ⟨w', ?_, hSw⟩⟩) ?_
        · go_simp
        simp only [List.set_cons_succ, List.set_cons_zero]
        refine takeG (i := 8) (v := .int .u8 (i : Int)) rfl rfl (by kernel_rfl) (by kernel_rfl) (by kernel_rfl) (by kernel_rfl) (fun _ _ _ h => h) (Or.inl ⟨by kernel_rfl, fun w' hSw => Or.inl ⟨w', ?_, hSw⟩⟩) ?_
        · go_simp
        simp only [List.set_cons_succ, List.set_cons_zero]
        refine takeG (i := 9) (v := .int .i64 (i : Int)) rfl rfl (by kernel_rfl) (by kernel_rfl) (by kernel_rfl) (by kernel_rfl) (fun _ _ _ h => h) (Or.inl ⟨by kernel_rfl, fun w' hSw => Or.inl ⟨w', ?_, hSw⟩⟩) ?_
        · go_simp
        simp only [List.set_cons_succ, List.set_cons_zero]
        refine lastG (oz := _) (by kernel_rfl) rfl (by kernel_rfl) fun w' hSw K hK => ?_
        obtain ⟨wq, hrun, hMN, hgr⟩ := (HM.out.of (hSw.block mb HM.out.lt)).put x i hru (by omega) (by omega)
        have ht : Turn (fun i => i = mb) wr wq := (Turn.of hSw).trans (Turn.grown hgr) (fun i hi => .inl (by cases hi; rfl))
        have HM2 := hide hMN
        have HZ2 := hide (HZ.out.turn ht (by have := hmb.out; omega))
        have HX2 := hide (HX.out.turn ht (by have := hgx.out; omega))
        have HB2 := hide (HB.out.trans (ht.below HB.out.size (fun i hi => by have := hmb.out; omega)))
        clear ht hMN hgr
        go_simp
        refine hK.out _ _ ?_
        clear hK K HC HC3 hSw
        go_wp2
        go_roundw
        case rel => exact ⟨k + 1, by go_num, by omega, hide ⟨_, HM2.out, fun r => by by_cases e : r = x <;> simp [e, hi6, HF.out], HZ2.out, HX2.out, HB2.out⟩⟩
        case measure => simp [intOf]; omega
      · have hkm1 : ¬ ((k : Int) < (m : Int)) := by omega
        go_wp2
        go_roundw
        case rel => exact ⟨k + 1, by go_num, by omega, hide ⟨f, by
          obtain ⟨D, ⟨es, clock, hb, F, hs, hD⟩, hf⟩ := HM.out
          exact ⟨D, ⟨es, clock, hb, F, by omega, hD⟩, hf⟩, HF.out, HZ.out, HX.out, HB.out⟩⟩
        case measure => simp [intOf]; omega
    · have hkl : k = l := by omega
      subst hkl
      have LD := hide (load_obj Try.underlying34 infoV rfl HX.out.at_)
      obtain ⟨wq, hrun, ho, ha⟩ := store_obj (P := Try.prog) (ty := 34) (n := 6) (cs := (vwC je 1 0 fr ep (.map (some mb))).toList) infoV rfl rfl (vw_one _ _ _ _ _ _) HZ.out.at_
      have HE : Hid (ViewOf w je fr ep (.returned (.agg (vwC je 1 0 fr ep (.map (some mb))))) wq) := hide ⟨mb, k, f, rfl, HM.out.of ((Turn.apart ha).block mb HM.out.lt (by have := hmb.out; omega)), HF.out, by have := hmb.out; omega, HB.out.trans (ha.old _ HB.out.size (Nat.le_refl _))⟩
      clear HM HX HZ HS HN HR HU
      go_wp2_with (first
        | (refine wpList_load_at 34 (.tmp 11) rfl rfl (.pointer (some ⟨gx, 0, none⟩)) rfl (.agg _) LD.out ?_)
        | (refine wpList_store_at 34 (.tmp 10) (.tmp 55) rfl rfl (.pointer (some ⟨w.heap.size, 0, none⟩)) (.agg _) rfl rfl _ hrun ?_))
      rw [hje.out, hep.out]
      exact ret_struct rfl rfl ho Try.underlying34 infoV rfl HE.out
end Go.Proofs.Ytfkabmgbcdoijaa

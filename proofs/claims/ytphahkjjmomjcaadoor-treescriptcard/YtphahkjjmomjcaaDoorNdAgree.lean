/- Contract of the model's agrees: a tree that is as its model. -/
import Derived.Test.YtphahkjjmomjcaaDoorNdKids

import Derived.Test.YtphahkjjmomjcaaDoorTKids

import Derived.Test.YtphahkjjmomjcaaDoorTSort5

import Derived.Test.YtphahkjjmomjcaaDoorRegG

namespace Go.Proofs.YtphahkjjmomjcaaDoor

open Go.ChangeShapes Go.WideShapes Go.ChangeAt Go.RowKit

set_option linter.unusedVariables false

set_option maxRecDepth 100000 in
set_option maxHeartbeats 8000000 in
theorem agrees_any (F : Nat → Prop) (p : Nat) (bs : List TBlk) (ms : List Nod) (a : Option Addr) (l c : Nat) (w : World) (hT : TAt w F p bs) (hN : NRow w a l ms) (hM : MOf bs ms) (hO : TOk bs) (h49 : bs.length ≤ 49) :
    Calls Tryd.prog 12 #[.slice a l c, .pointer (some ⟨p, 0, none⟩)] w fun e w' => e = .returned (.bool true) ∧ Below w.heap.size w w' := by
  have HN := hide hN
  have HM := hide hM
  have HO := hide hO
  have HT := hide hT
  have hml0 : bs.length = l := by rw [← hN.1, hM.len]
  have hl49 : l ≤ 49 := by rw [← hml0]; exact h49
  have hl0 : 0 < l := by rw [← hml0]; exact hO.pos
  have HRT := hide (roots_any 49 sorts49 F p bs w hT hO h49)
  have hml := hide hml0
  clear hN hM hO hT h49 hml0
  go_enter Tryd.func12, Tryd.ntmps12
  go_wp2_with fail
  refine HRT.out.mono ?_
  rintro e w1 ⟨rv, rfl, hrow, hb1⟩
  obtain ⟨ra, rc, rfl, hrr⟩ := RowIn.ofOwned hrow
  rw [hml.out] at hrr ⊢
  have HRR : Hid (RowIn .u64 w1 ra l rc (RR bs)) := hide hrr
  have HB1 := hide hb1
  replace HT := hide (HT.out.below hb1)
  replace HN := hide (HN.out.below hb1)
  clear hb1 hrr hrow HRT
  have HLN : Hid (∀ w', Below w1.heap.size w1 w' → _) := hide fun w' h => len_any F p bs w' (HT.out.below h) HO.out
  have HFI : Hid (∀ w', Below w1.heap.size w1 w' → _) := hide fun w' h => first_any F p bs w' (HT.out.below h) HO.out
  simp only [hml.out] at HLN
  obtain ⟨gm, om, rfl, hgm, q0, q1, q2⟩ := HN.out.node hl0
  have h00 : Hid ((nd ms 0).root = (tb bs 0).root) := hide (HM.out.root 0 (by rw [hml.out]; exact hl0))
  rw [h00.out, Nat.zero_mul, Nat.add_zero] at q0
  obtain ⟨R0, hR0⟩ : ∃ x, Hid ((tb bs 0).root = x) := ⟨_, rfl⟩
  rw [hR0.out] at q0
  simp only [hR0.out] at HFI
  have hl0i : (0 : Int) < (l : Int) := by omega
  have hq0 : Hid (∀ w', Below w1.heap.size w1 w' → w'.cell? ⟨gm, om, none⟩ = some (.int .u64 R0)) := hide fun w' h => (h.cell (p := ⟨gm, om, none⟩) hgm).trans q0
  clear h00 hR0 q0 q1 q2 hgm
  go_upto_region 2 with fail
  go_cut [42] from 22 to 42 (fun x wx => x = .bool false ∧ Hid (Below w1.heap.size w1 wx))
  case first =>
    refine startG (fun w' => Below w1.heap.size w1 w') 21 (by kernel_rfl) (Below.refl _ _).drew ?_
    refine takeG (i := 0) (v := .pointer (some ⟨p, 0, none⟩)) rfl rfl (by kernel_rfl) (by kernel_rfl) (by kernel_rfl) (by kernel_rfl) (fun _ _ _ h => h) (Or.inl ⟨by kernel_rfl, fun w' hSw => Or.inl ⟨w', ?_, hSw⟩⟩) ?_
    · go_simp
    simp only [List.set_cons_succ, List.set_cons_zero]
    refine takeG (i := 1) (v := .int .i64 (l : Int)) rfl rfl (by kernel_rfl) (by kernel_rfl) (by kernel_rfl) (by kernel_rfl) (fun _ _ _ h => h) (Or.inl ⟨by kernel_rfl, fun w' hSw => doesOf rfl (by kernel_rfl) fun K hK => ?_⟩) ?_
    · go_simp
      refine (HLN.out _ hSw).mono ?_
      rintro e w2 ⟨rfl, hw⟩
      exact hK.out _ ((by rw [hw]; exact hSw))
    simp only [List.set_cons_succ, List.set_cons_zero]
    refine takeG (i := 2) (v := .slice (some ⟨gm, om, none⟩) l c) rfl rfl (by kernel_rfl) (by kernel_rfl) (by kernel_rfl) (by kernel_rfl) (fun _ _ _ h => h) (Or.inl ⟨by kernel_rfl, fun w' hSw => Or.inl ⟨w', ?_, hSw⟩⟩) ?_
    · go_simp
    simp only [List.set_cons_succ, List.set_cons_zero]
    refine takeG (i := 3) (v := .int .i64 (l : Int)) rfl rfl (by kernel_rfl) (by kernel_rfl) (by kernel_rfl) (by kernel_rfl) (fun _ _ _ h => h) (Or.inl ⟨by kernel_rfl, fun w' hSw => Or.inl ⟨w', ?_, hSw⟩⟩) ?_
    · go_simp
    simp only [List.set_cons_succ, List.set_cons_zero]
    refine takeG (i := 4) (v := .bool false) rfl rfl (by kernel_rfl) (by kernel_rfl) (by kernel_rfl) (by kernel_rfl) (fun _ _ _ h => h) (Or.inl ⟨by kernel_rfl, fun w' hSw => Or.inl ⟨w', ?_, hSw⟩⟩) ?_
    · go_simp
    simp only [List.set_cons_succ, List.set_cons_zero]
    refine takeG (i := 5) (v := .bool false) rfl rfl (by kernel_rfl) (by kernel_rfl) (by kernel_rfl) (by kernel_rfl) (fun _ _ _ h => h) (Or.inl ⟨by kernel_rfl, fun w' hSw => Or.inl ⟨w', ?_, hSw⟩⟩) ?_
    · go_simp
    simp only [List.set_cons_succ, List.set_cons_zero]
    refine takeG (i := 6) (v := .slice ra l rc) rfl rfl (by kernel_rfl) (by kernel_rfl) (by kernel_rfl) (by kernel_rfl) (fun _ _ _ h => h) (Or.inl ⟨by kernel_rfl, fun w' hSw => Or.inl ⟨w', ?_, hSw⟩⟩) ?_
    · go_simp
    simp only [List.set_cons_succ, List.set_cons_zero]
    refine takeG (i := 7) (v := .int .i64 (l : Int)) rfl rfl (by kernel_rfl) (by kernel_rfl) (by kernel_rfl) (by kernel_rfl) (fun _ _ _ h => h) (Or.inl ⟨by kernel_rfl, fun w' hSw => Or.inl ⟨w', ?_, hSw⟩⟩) ?_
    · go_simp
    simp only [List.set_cons_succ, List.set_cons_zero]
    refine takeG (i := 8) (v := .slice (some ⟨gm, om, none⟩) l c) rfl rfl (by kernel_rfl) (by kernel_rfl) (by kernel_rfl) (by kernel_rfl) (fun _ _ _ h => h) (Or.inl ⟨by kernel_rfl, fun w' hSw => Or.inl ⟨w', ?_, hSw⟩⟩) ?_
    · go_simp
    simp only [List.set_cons_succ, List.set_cons_zero]
    refine takeG (i := 9) (v := .int .i64 (l : Int)) rfl rfl (by kernel_rfl) (by kernel_rfl) (by kernel_rfl) (by kernel_rfl) (fun _ _ _ h => h) (Or.inl ⟨by kernel_rfl, fun w' hSw => Or.inl ⟨w', ?_, hSw⟩⟩) ?_
    · go_simp
    simp only [List.set_cons_succ, List.set_cons_zero]
    refine takeG (i := 10) (v := .bool false) rfl rfl (by kernel_rfl) (by kernel_rfl) (by kernel_rfl) (by kernel_rfl) (fun _ _ _ h => h) (Or.inl ⟨by kernel_rfl, fun w' hSw => Or.inl ⟨w', ?_, hSw⟩⟩) ?_
    · go_simp
    simp only [List.set_cons_succ, List.set_cons_zero]
    refine takeG (i := 11) (v := .bool false) rfl rfl (by kernel_rfl) (by kernel_rfl) (by kernel_rfl) (by kernel_rfl) (fun _ _ _ h => h) (Or.inl ⟨by kernel_rfl, fun w' hSw => Or.inl ⟨w', ?_, hSw⟩⟩) ?_
    · go_simp
    simp only [List.set_cons_succ, List.set_cons_zero]
    refine takeG (i := 12) (v := .bool false) rfl rfl (by kernel_rfl) (by kernel_rfl) (by kernel_rfl) (by kernel_rfl) (fun _ _ _ h => h) (Or.inl ⟨by kernel_rfl, fun w' hSw => Or.inl ⟨w', ?_, hSw⟩⟩) ?_
    · go_simp
    simp only [List.set_cons_succ, List.set_cons_zero]
    refine takeG (i := 13) (v := .pointer (some ⟨p, 0, none⟩)) rfl rfl (by kernel_rfl) (by kernel_rfl) (by kernel_rfl) (by kernel_rfl) (fun _ _ _ h => h) (Or.inl ⟨by kernel_rfl, fun w' hSw => Or.inl ⟨w', ?_, hSw⟩⟩) ?_
    · go_simp
    simp only [List.set_cons_succ, List.set_cons_zero]
    refine takeG (i := 14) (v := .int .u64 R0) rfl rfl (by kernel_rfl) (by kernel_rfl) (by kernel_rfl) (by kernel_rfl) (fun _ _ _ h => h) (Or.inl ⟨by kernel_rfl, fun w' hSw => doesOf rfl (by kernel_rfl) fun K hK => ?_⟩) ?_
    · go_simp
      refine (HFI.out _ hSw).mono ?_
      rintro e w2 ⟨rfl, hw⟩
      exact hK.out _ ((by rw [hw]; exact hSw))
    simp only [List.set_cons_succ, List.set_cons_zero]
    refine takeG (i := 15) (v := .slice (some ⟨gm, om, none⟩) l c) rfl rfl (by kernel_rfl) (by kernel_rfl) (by kernel_rfl) (by kernel_rfl) (fun _ _ _ h => h) (Or.inl ⟨by kernel_rfl, fun w' hSw => Or.inl ⟨w', ?_, hSw⟩⟩) ?_
    · go_simp
    simp only [List.set_cons_succ, List.set_cons_zero]
    refine takeG (i := 16) (v := .pointer (some ⟨gm, om, none⟩)) rfl rfl (by kernel_rfl) (by kernel_rfl) (by kernel_rfl) (by kernel_rfl) (fun _ _ _ h => h) (Or.inl ⟨by kernel_rfl, fun w' hSw => Or.inl ⟨w', ?_, hSw⟩⟩) ?_
    · go_simp
    simp only [List.set_cons_succ, List.set_cons_zero]
    refine takeG (i := 17) (v := .pointer (some ⟨gm, om, none⟩)) rfl rfl (by kernel_rfl) (by kernel_rfl) (by kernel_rfl) (by kernel_rfl) (fun _ _ _ h => h) (Or.inl ⟨by kernel_rfl, fun w' hSw => Or.inl ⟨w', ?_, hSw⟩⟩) ?_
    · go_simp
    simp only [List.set_cons_succ, List.set_cons_zero]
    refine takeG (i := 18) (v := .int .u64 R0) rfl rfl (by kernel_rfl) (by kernel_rfl) (by kernel_rfl) (by kernel_rfl) (fun _ _ _ h => h) (Or.inl ⟨by kernel_rfl, fun w' hSw => Or.inl ⟨w', ?_, hSw⟩⟩) ?_
    · have hl := hq0.out w' hSw; go_simp
    simp only [List.set_cons_succ, List.set_cons_zero]
    refine takeG (i := 19) (v := .bool false) rfl rfl (by kernel_rfl) (by kernel_rfl) (by kernel_rfl) (by kernel_rfl) (fun _ _ _ h => h) (Or.inl ⟨by kernel_rfl, fun w' hSw => Or.inl ⟨w', ?_, hSw⟩⟩) ?_
    · go_simp
    simp only [List.set_cons_succ, List.set_cons_zero]
    refine takeG (i := 20) (v := .bool false) rfl rfl (by kernel_rfl) (by kernel_rfl) (by kernel_rfl) (by kernel_rfl) (fun _ _ _ h => h) (Or.inl ⟨by kernel_rfl, fun w' hSw => Or.inl ⟨w', ?_, hSw⟩⟩) ?_
    · go_simp
    simp only [List.set_cons_succ, List.set_cons_zero]
    refine doneG (by kernel_rfl) fun w' hSw => ?_
    have HF := hide hSw
    clear hSw
    go_wp2
    go_meet
    exact ⟨rfl, HF⟩
  case rest =>
  obtain ⟨rfl, hbl⟩ := hcut
  obtain ⟨Y, rfl⟩ : ∃ x, x = wc := ⟨_, rfl⟩
  clear HLN HFI hq0
  go_wp2
  go_loopw [45] (fun v wr => ∃ k : Nat, v = .int .i64 (k : Int) ∧ k ≤ l ∧ Hid (Below w1.heap.size w1 wr)) (fun v _ => l - (intOf v).toNat)
  case atStart => exact ⟨0, rfl, Nat.zero_le _, hbl⟩
  case round =>
    obtain ⟨k, rfl, hkl, HB⟩ := hrel
    by_cases hlt : k < l
    · obtain ⟨r, hr⟩ : ∃ r, Hid ((RR bs).getD k 0 = r) := ⟨_, rfl⟩
      obtain ⟨q, hql, hqr, hqx⟩ := RR_at HO.out (k := k) (by rw [hml.out]; exact hlt)
      rw [hr.out] at hqr hqx
      obtain ⟨gr, ro, rfl, hgr, hcr⟩ := HRR.out.cell k hlt
      have hck := (HB.out.cell (p := ⟨gr, ro + k, none⟩) hgr).trans hcr
      rw [hr.out] at hck
      have hki : (k : Int) < (l : Int) := by omega
      have HN2 := hide (HN.out.below HB.out)
      have HF := hide (find_any ms _ l c r wr HN2.out (by omega))
      rw [HM.out.some hqx] at HF
      have hruu := HO.out.root q hql
      rw [hqr] at hruu
      have HQX := hide hqx
      have HQL := hide hql
      have HQR := hide hqr
      clear hcr hqx hqr hql
      have hq0 : (0 : Int) ≤ (q : Int) := by omega
      go_wp2_with fail
      refine HF.out.mono ?_
      rintro e w2 ⟨rfl, hb⟩
      have hck2 := (hb.cell (p := ⟨gr, ro + k, none⟩) (Nat.lt_of_lt_of_le hgr HB.out.size)).trans hck
      replace HB := hide (HB.out.trans (hb.mono HB.out.size))
      replace HN2 := hide (HN2.out.below hb)
      clear hb hck HF
      go_upto_region 8 with fail
      go_cut [67] from 53 to 67 (fun x wx => x = .bool false ∧ wx = w2)
      case first =>
        by_cases h0 : k = 0
        · subst h0
          clear hck2
          go_wp2
          go_meet
          exact ⟨rfl, rfl⟩
        · obtain ⟨j, hj⟩ : ∃ j, Hid (k = j + 1) := ⟨k - 1, by show k = k - 1 + 1; omega⟩
          have hkm : (k : Int) - 1 = (j : Int) := by have := hj.out; omega
          have hk0 : (0 : Int) < (k : Int) := by omega
          have hjl : (j : Int) < (l : Int) := by omega
          have hj0 : (0 : Int) ≤ (j : Int) := by omega
          obtain ⟨gr', ro', e', _, hcj⟩ := HRR.out.cell j (by have := hj.out; omega)
          cases e'
          have hcj := (HB.out.cell (p := ⟨gr, ro + j, none⟩) hgr).trans hcj
          have hlt2 := RR_lt HO.out (j := j) (k := k) (by have := hj.out; omega) (by rw [hml.out]; exact hlt)
          rw [hr.out] at hlt2
          generalize (RR bs).getD j 0 = r2 at hcj hlt2
          have hle : ¬ r ≤ r2 := by omega
          clear hlt2 h0
          go_wp2
          go_meet
          exact ⟨rfl, rfl⟩
      case rest =>
      obtain ⟨rfl, hw⟩ := hcut
      obtain rfl : _ = wc := hw.symm
      clear hck2 hgr
      have HGT := hide (get_any F p bs r q w2 (HT.out.below HB.out) HO.out hruu HQX.out)
      obtain ⟨P, hP⟩ : ∃ x, Hid ((tb bs (tb bs q).par).root = x) := ⟨_, rfl⟩
      obtain ⟨Z, hZ⟩ : ∃ x, Hid ((tb bs q).slot = x) := ⟨_, rfl⟩
      obtain ⟨H, hH⟩ : ∃ x, Hid ((tb bs q).high = x) := ⟨_, rfl⟩
      unfold getV at HGT
      rw [hP.out, hZ.out, hH.out] at HGT
      go_wp2_with fail
      refine HGT.out.mono ?_
      rintro e w3 ⟨rfl, hb⟩
      replace HB := hide (HB.out.trans (hb.mono HB.out.size))
      replace HN2 := hide (HN2.out.below hb)
      clear hb HGT
      have hqll : q < l := by rw [← hml.out]; exact HQL.out
      have hqli : (q : Int) < (l : Int) := by omega
      obtain ⟨gn, on, en, hgn, _, q1, q2⟩ := HN2.out.node hqll
      cases en
      obtain ⟨PP, hPP⟩ : ∃ x, Hid ((nd ms q).par = x) := ⟨_, rfl⟩
      have hsl : Hid ((nd ms q).slot = Z) := hide (by rw [HM.out.slot q HQL.out, hZ.out])
      rw [hPP.out] at q1
      rw [hsl.out] at q2
      have hHq := HO.out.high q HQL.out
      rw [hH.out] at hHq
      have hH49 : (H : Int) ≤ 49 := by omega
      have q2' := hide q2
      clear q2
      go_wp2
      go_loopw [14, 15] (fun u v wx => ∃ j h : Nat, v = .int .i64 (j : Int) ∧ u = .int .i64 (h : Int) ∧ j < l ∧ Hid (h + (tb bs j).high = H ∧ Below w3.heap.size w3 wx)) (fun _ v _ => (intOf v).toNat)
      case atStart => exact ⟨q, 0, rfl, rfl, hqll, hide ⟨by rw [Nat.zero_add]; exact hH.out, Below.refl _ _⟩⟩
      case round =>
        obtain ⟨wx, rfl⟩ : ∃ x, x = wr := ⟨_, rfl⟩
        obtain ⟨j, h, rfl, rfl, hjl, hI⟩ := hrel
        have HH := hide hI.out.1
        have HB4 := hide hI.out.2
        clear hI
        have hjb : j < bs.length := by rw [hml.out]; exact hjl
        by_cases hj0 : 0 < j
        · have hj0i : (0 : Int) < (j : Int) := by omega
          have hj0j : (0 : Int) ≤ (j : Int) := by omega
          have hjli : (j : Int) < (l : Int) := by omega
          have HN4 := hide (HN2.out.below HB4.out)
          obtain ⟨gn', on', en, _, _, p1, _⟩ := HN4.out.node hjl
          cases en
          have hpar := HO.out.par j hj0 hjb
          have hst := HO.out.step j hj0 hjb
          have hfp : Hid (fnd ms (nd ms j).par = (((tb bs j).par : Nat) : Int)) := hide (by
            rw [HM.out.par j hj0 hjb]
            exact HM.out.some (idx_of HO.out (HO.out.par_le hjb)))
          have HH2 : Hid (h + 1 + (tb bs (tb bs j).par).high = H) := hide (by have := HH.out; omega)
          have hh49 : (h : Int) ≤ 49 := by have := HH.out; omega
          generalize (tb bs j).par = jp at hpar hfp HH2 hst
          generalize (nd ms j).par = JP at p1 hfp
          have HF := hide (find_any ms _ l c JP wx HN4.out (by omega))
          rw [hfp.out] at HF
          clear hst HH
          go_wp2_with (go_at_call 7; refine HF.out.mono ?_; rintro e w5 ⟨rfl, hb⟩; have HB5 := hide (HB4.out.trans (hb.mono HB4.out.size)); clear hb)
          go_roundw
          case rel => exact ⟨jp, h + 1, rfl, by go_num, by omega, hide ⟨HH2.out, HB5.out⟩⟩
          case measure => simp [intOf]; omega
        · obtain rfl : j = 0 := by omega
          have hhH : Hid (h = H) := hide (by have := HH.out; rw [HO.out.high0] at this; omega)
          obtain rfl := hhH.out
          have HB5 := hide (HB.out.trans (HB4.out.mono HB.out.size))
          have HN4 := hide (HN2.out.below HB4.out)
          have q2 := (HB4.out.cell (p := ⟨gm, om + q * 3 + 2, none⟩) hgn).trans q2'.out
          clear HH hhH q2' HB HN2 q1
          have hwant : Hid (bif (q : Int) == 0 then r = P else PP = P) := by
            unfold Hid
            by_cases hq : q = 0
            · subst hq
              show r = P
              rw [← hP.out, HO.out.par0]
              exact HQR.out.symm
            · have : ((q : Int) == 0) = false := by simp only [beq_eq_false_iff_ne, ne_eq]; omega
              rw [this]
              show PP = P
              rw [← hPP.out, HM.out.par q (by omega) HQL.out, hP.out]
          go_upto_if 94 with fail
          go_cut [13] from 95 to 95 (fun x wy => x = .int .u64 P ∧ wy = wx)
          case first =>
            by_cases hq : q = 0
            · subst hq
              have e1 : r = P := hwant.out
              clear q2
              go_wp2
              go_meet
              exact ⟨by rw [e1], rfl⟩
            · have hqz : ((q : Int) == 0) = false := by simp only [beq_eq_false_iff_ne, ne_eq]; omega
              have e1 : Hid (PP = P) := by have := hwant.out; rw [hqz] at this; exact this
              clear q2 hq
              go_wp2
              go_meet
              exact ⟨by rw [e1.out], rfl⟩
          case rest =>
          obtain ⟨rfl, hw⟩ := hcut
          obtain rfl : _ = wc := hw.symm
          clear hwant
          have HKD := hide (kids_any F p bs r q wx (HT.out.below HB5.out) HO.out hruu HQX.out)
          go_wp2_with fail
          refine HKD.out.mono ?_
          rintro e w6 ⟨kv, rfl, hkow, hb⟩
          obtain ⟨ka, kc, rfl, hkr⟩ := RowIn.ofOwned hkow
          have HKR := hide hkr
          have HB6 := hide (HB5.out.trans (hb.mono HB5.out.size))
          clear hb hkow hkr HKD q2 HB4 HN4
          obtain ⟨kn, hkn⟩ : ∃ kn, Hid ((tb bs q).kids.length = kn) := ⟨_, rfl⟩
          rw [hkn.out] at HKR ⊢
          go_wp2
          go_loopw [17, 122] (fun u v wy => ∃ (j nn : Nat), v = .int .i64 (j : Int) ∧ j ≤ l ∧ u = .int .i64 (nn : Int) ∧ Hid (nn = cntK bs q j ∧ Below w6.heap.size w6 wy)) (fun _ v _ => l - (intOf v).toNat)
          case atStart => exact ⟨0, 0, rfl, Nat.zero_le _, rfl, hide ⟨rfl, Below.refl _ _⟩⟩
          case round =>
            obtain ⟨wy, rfl⟩ : ∃ x, x = wr := ⟨_, rfl⟩
            obtain ⟨j, nn, rfl, hjl, rfl, hI⟩ := hrel
            have HC := hide hI.out.1
            have HB7 := hide hI.out.2
            clear hI
            have HB8 := hide (HB6.out.trans (HB7.out.mono HB6.out.size))
            have hnn49 : (nn : Int) ≤ 49 := by have h1 := HC.out; have := cntK_le (bs := bs) q j (by rw [hml.out]; exact hjl); omega
            by_cases hjlt : j < l
            · have hjb : j < bs.length := by rw [hml.out]; exact hjlt
              obtain ⟨x, hx⟩ : ∃ x, Hid ((RR bs).getD j 0 = x) := ⟨_, rfl⟩
              obtain ⟨t, htl, htr, htx⟩ := RR_at HO.out (k := j) hjb
              have hst := cntK_step (bs := bs) (i := q) hjb
              have hat := cntK_at HO.out (i := q) (k := j) HQL.out hjb
              rw [hx.out] at htr htx hst hat
              rw [kidB_some htx] at hst hat
              obtain ⟨gr', ro', e', hgr', hcr⟩ := HRR.out.cell j hjlt
              cases e'
              have hck := (HB8.out.cell (p := ⟨gr, ro + j, none⟩) hgr').trans hcr
              rw [hx.out] at hck
              clear hcr
              have hji : (j : Int) < (l : Int) := by omega
              have HN8 := hide (HN.out.below HB8.out)
              have HF := hide (find_any ms _ l c x wy HN8.out (by omega))
              rw [HM.out.some htx] at HF
              have htll : t < l := by rw [← hml.out]; exact htl
              have htli : (t : Int) < (l : Int) := by omega
              have ht0 : (0 : Int) ≤ (t : Int) := by omega
              have hfx := hide (HM.out.some htx)
              clear htx htr
              go_wp2_with fail
              refine HF.out.mono ?_
              rintro e w9 ⟨rfl, hb⟩
              have HB9 := hide (HB8.out.trans (hb.mono HB8.out.size))
              have HB10 := hide (HB7.out.trans (hb.mono HB7.out.size))
              have HN9 := hide (HN8.out.below hb)
              clear hb HF HN8 HB8 HB7 hck
              by_cases htz : 0 < t
              · have htzi : (0 : Int) < (t : Int) := by omega
                have HF := hide (find_any ms _ l c x w9 HN9.out (by omega))
                rw [hfx.out] at HF
                have hpt : Hid ((nd ms t).par = (tb bs (tb bs t).par).root) := hide (HM.out.par t htz htl)
                go_wp2_with fail
                refine HF.out.mono ?_
                rintro e w11 ⟨rfl, hb⟩
                have HB11 := hide (HB9.out.trans (hb.mono HB9.out.size))
                have HB12 := hide (HB10.out.trans (hb.mono HB10.out.size))
                obtain ⟨gn', on', en, _, _, p1, _⟩ := (HN9.out.below hb).node htll
                cases en
                rw [hpt.out] at p1
                obtain ⟨TP, hTP⟩ : ∃ x, Hid ((tb bs (tb bs t).par).root = x) := ⟨_, rfl⟩
                rw [hTP.out] at p1
                clear hb HF HB9 HB10 HN9
                by_cases hpq : (tb bs t).par = q
                · have hTr : TP = r := by rw [← hTP.out, hpq]; exact HQR.out
                  have heq : (TP == r) = true := by rw [hTr]; simp
                  have hkb : decide (0 < t ∧ (tb bs t).par = q) = true := decide_eq_true ⟨htz, hpq⟩
                  have hcs := hide (hst.1 hkb)
                  obtain ⟨a1, a2⟩ := hat hkb
                  rw [← HC.out] at a1 a2 hcs
                  rw [hkn.out] at a1
                  obtain ⟨gk, ko, rfl, hgk, hkc⟩ := HKR.out.cell nn a1
                  have hkc2 := (HB12.out.cell (p := ⟨gk, ko + nn, none⟩) hgk).trans hkc
                  rw [a2] at hkc2
                  have hnk : (nn : Int) < (kn : Int) := by omega
                  clear a1 a2 hst hat hkb hTr hkc hpq hpt
                  go_wp2
                  go_roundw
                  case rel => exact ⟨j + 1, nn + 1, by go_num, by omega, by go_num, hide ⟨hcs.out.symm, HB12.out⟩⟩
                  case measure => simp [intOf]; omega
                · have heq : (TP == r) = false := by
                    simp only [beq_eq_false_iff_ne, ne_eq]
                    intro e
                    rw [← hTP.out, ← HQR.out] at e
                    exact hpq (HO.out.one _ _ (HO.out.par_le htl) HQL.out e)
                  have hcs := hide (hst.2 (decide_eq_false (fun e => hpq e.2)))
                  rw [← HC.out] at hcs
                  clear hst hat hpq hpt
                  go_wp2
                  go_roundw
                  case rel => exact ⟨j + 1, nn, by go_num, by omega, rfl, hide ⟨hcs.out.symm, HB12.out⟩⟩
                  case measure => simp [intOf]; omega
              · have htz2 : ¬ ((0 : Int) < (t : Int)) := by omega
                have hcs := hide (hst.2 (decide_eq_false (fun e => htz e.1)))
                rw [← HC.out] at hcs
                obtain rfl : t = 0 := by omega
                clear hst hat htz
                go_wp2
                go_roundw
                case rel => exact ⟨j + 1, nn, by go_num, by omega, rfl, hide ⟨hcs.out.symm, HB10.out⟩⟩
                case measure => simp [intOf]; omega
            · obtain rfl : j = l := by omega
              have hnk : Hid (nn = kn) := hide (by rw [HC.out, ← hkn.out, ← hml.out]; exact cntK_all HO.out HQL.out)
              obtain rfl := hnk.out
              clear HC hnk
              go_wp2
              go_roundw
              case rel => exact ⟨k + 1, by go_num, by omega, HB8⟩
              case measure => simp [intOf]; omega
    · obtain rfl : k = l := by omega
      have HZ := hide (HB1.out.trans (HB.out.mono HB1.out.size))
      go_wp2
      go_ret
      exact ⟨rfl, HZ.out⟩
end Go.Proofs.YtphahkjjmomjcaaDoor

/-
  advanced in two parts a state is as if it were advanced at once (LedgerParts is true of every input).
-/
import Derived.Test.YtpkpjfmljgchbaaRows

import Derived.WalkKit

import Derived.Below

import Derived.ProofKit

import Derived.OpenShut

import Derived.ShutString

import Derived.ChangeOld

import Derived.Test.YtpkpjfmljgchbaaLAwake

import Derived.Test.YtpkpjfmljgchbaaLSame

import Derived.Test.YtpkpjfmljgchbaaLHelp2

import Derived.Test.YtpkpjfmljgchbaaEpMath

namespace Go.Proofs.Ytpkpjfmljgchbaa.ledgerParts

open Go.ChangeShapes Go.WideShapes Go.ChangeAt Go.RowKit

set_option linter.unusedVariables false

theorem own : ownKnob Try.prog.godebug = none := by kernel_rfl
theorem laidOut : laidOutB Try.prog = true := by kernel_rfl
theorem cells3 : Try.prog.cellsOf 3 = 1 := by kernel_rfl
theorem cells4 : Try.prog.cellsOf 4 = 1 := by kernel_rfl
theorem cells5 : Try.prog.cellsOf 5 = 1 := by kernel_rfl
theorem cells22 : Try.prog.cellsOf 22 = 1 := by kernel_rfl
theorem cells24 : Try.prog.cellsOf 24 = 3 := by kernel_rfl
theorem cells32 : Try.prog.cellsOf 32 = 1 := by kernel_rfl
theorem list3 {α : Type _} {l : List α} (h : l.length = 3) : ∃ x0 x1 x2, l = [x0, x1, x2] := by
  match l, h with
  | [x0, x1, x2], _ => exact ⟨x0, x1, x2, rfl⟩
theorem epo_mul (q s : Int) (hq : 0 ≤ q ∧ q ≤ 65535) (hs : 1 ≤ s ∧ s ≤ 64) : epo (wrap64 (q * s)) s = q := by
  have h1 : 0 ≤ q * s := Int.mul_nonneg hq.1 (by omega)
  have h2 : q * s ≤ 65535 * 64 := Int.mul_le_mul hq.2 hs.2 (by omega) (by omega)
  have h3 : wrap64 (q * s) = q * s := by unfold wrap64; omega
  rw [h3]
  unfold epo lo0 lo1
  rw [if_neg (by omega), if_neg (by omega)]
  exact Int.mul_ediv_cancel _ (by omega)
theorem epo_small (t s : Int) (ht : 0 ≤ t) (hs : 1 ≤ s) : epo t s = t / s := by unfold epo lo0 lo1; rw [if_neg (by omega), if_neg (by omega)]
theorem adv_from (bs : List Int) (s : Int) (f : Int → Int) (S : LS) (t : Int) (he : 0 ≤ S.e ∧ S.e ≤ 65535) (hs : 1 ≤ s ∧ s ≤ 64) (ht : 0 ≤ t) (hd : t / s - S.e < 4096) : advS bs s f S t = advK bs s f S S.e (t / s - S.e).toNat := by
  unfold advS
  have h1 := epo_mul S.e s he hs
  have h2 := epo_small t s ht hs.1
  unfold ends
  rw [h1, h2, if_pos hd]
theorem adv_two (bs : List Int) (s : Int) (f : Int → Int) (S : LS) (a b : Int) (h0 : S.e = 0) (hs : 1 ≤ s ∧ s ≤ 64) (ha : 0 ≤ a ∧ a ≤ 255) (hb : 0 ≤ b ∧ b ≤ 255) : advS bs s f (advS bs s f S a) (a + b) = advS bs s f S (a + b) := by
  have q1 : 0 ≤ a / s ∧ a / s ≤ 255 := ⟨Int.ediv_nonneg ha.1 (by omega), Int.le_trans (Int.ediv_le_self _ ha.1) ha.2⟩
  have q2 : 0 ≤ (a + b) / s ∧ (a + b) / s ≤ 510 := ⟨Int.ediv_nonneg (by omega) (by omega), Int.le_trans (Int.ediv_le_self _ (by omega)) (by omega)⟩
  have q3 : a / s ≤ (a + b) / s := Int.ediv_le_ediv (by omega) (by omega)
  have e1 := adv_from bs s f S a (by omega) hs ha.1 (by omega)
  have e2 := adv_from bs s f S (a + b) (by omega) hs (by omega) (by omega)
  rw [h0, Int.sub_zero] at e1 e2
  have he : (advS bs s f S a).e = a / s := by
    rw [e1, advK_e]
    split
    · omega
    · omega
  have e3 := adv_from bs s f (advS bs s f S a) (a + b) (by omega) hs (by omega) (by omega)
  rw [e3, he, e1, e2]
  unfold advK
  rw [← List.foldl_append]
  congr 1
  have h := run_append 0 (a / s).toNat ((a + b) / s - a / s).toNat
  rw [show (0 : Int) + ((a / s).toNat : Int) = a / s by omega] at h
  rw [h]
  congr 1
  omega
theorem adv_zero (bs : List Int) (s : Int) (f : Int → Int) (S : LS) (h0 : S.e = 0) (hs : 1 ≤ s ∧ s ≤ 64) : advS bs s f S 0 = S := by
  rw [adv_from bs s f S 0 (by omega) hs (by omega) (by rw [h0]; simp), h0]
  simp [advK, run]
def pN (k : Nat) : Bool := ((k : Int) % 3 != 1)
def pre (n k : Nat) : List Bool := (List.range k).map pN ++ List.replicate (n - k) false
theorem pre_len (n k : Nat) (h : k ≤ n) : (pre n k).length = n := by simp [pre]; omega
theorem pre_set (n k : Nat) (h : k < n) : (pre n k).set k (pN k) = pre n (k + 1) := by
  unfold pre
  rw [List.set_append_right _ _ (by simp), List.range_succ, List.map_append, List.append_assoc, show n - k = (n - (k + 1)) + 1 from by omega, List.replicate_succ]
  simp

set_option maxRecDepth 100000 in
set_option maxHeartbeats 16000000 in
set_option maxRecDepth 100000 in
theorem walk (a0_0 : Option Addr) (len0_0 cap0_0 : Nat) (z0_0 : List Int) (a0_1 : Int) (a0_2 : Int) (a1 : Int) (a2 : Int) (a3 : Int) (w : World) (w0_0 : IsRow .u64 w a0_0 len0_0 cap0_0 z0_0) (w0_1 : (Lit.int .i64 a0_1).wf = true) (w0_2 : (Lit.int .i64 a0_2).wf = true) (w1 : (Lit.int .u8 a1).wf = true) (w2 : (Lit.int .u8 a2).wf = true) (w3 : (Lit.int .u8 a3).wf = true) :
    Calls Try.prog 4 #[.agg #[.slice a0_0 len0_0 cap0_0, .int .i64 a0_1, .int .i64 a0_2], .int .u8 a1, .int .u8 a2, .int .u8 a3] w fun e w' => e = .returned (.bool true) ∧ Below w.heap.size w w' := by
  have hcb := wf_u8 w1
  have hta := wf_u8 w2
  have htb := wf_u8 w3
  have hwa : IntKind.i64.wrap a2 = a2 := by rw [IntKind.wrap_i64]; omega
  have hwb : IntKind.i64.wrap a3 = a3 := by rw [IntKind.wrap_i64]; omega
  have hwab : IntKind.i64.wrap (a2 + a3) = a2 + a3 := by rw [IntKind.wrap_i64]; omega
  clear w1 w2 w3
  have hB0 := w0_0.row
  have hu0 := w0_0.u64
  have hs0 := wf_i64 w0_1
  have hb0 := wf_i64 w0_2
  clear w0_0 w0_1 w0_2
  generalize z0_0.take len0_0 = bs0 at *
  have HB0 := hide (hB0.alloc (cfg a0_0 len0_0 cap0_0 a0_1 a0_2))
  have HU0 := hide hu0
  have HC0 := hide (OAt.new w (cfg a0_0 len0_0 cap0_0 a0_1 a0_2))
  have HN0 := hide ((Below.refl _ w).alloc (Nat.le_refl _) (cfg a0_0 len0_0 cap0_0 a0_1 a0_2))
  clear hB0 hu0
  have hSb := mkS_b a0_1
  have hnb := mkBs_len bs0
  have hub := mkBs_b bs0
  obtain ⟨S, hS⟩ : ∃ x, Hid (mkS a0_1 = x) := ⟨_, rfl⟩
  obtain ⟨B, hB⟩ : ∃ x, Hid (mkB a0_2 = x) := ⟨_, rfl⟩
  obtain ⟨bs, hbs⟩ : ∃ x, Hid (mkBs bs0 = x) := ⟨_, rfl⟩
  rw [hS.out] at hSb
  rw [hbs.out] at hnb hub
  obtain ⟨n, hn⟩ : ∃ x, bs.length = x := ⟨_, rfl⟩
  rw [hn] at hnb
  have hn0 : 0 < n ∧ n ≤ 4096 := by omega
  have hSi : I64s S := by unfold I64s; omega
  have hu : Hid (∀ z ∈ bs, 0 ≤ z ∧ z ≤ 18446744073709551615) := hide (fun z hz => by have := hub z hz; omega)
  clear hub
  go_enter Try.func4, Try.ntmps4
  go_wp2_with fail
  refine (awake_any _).mono ?_
  rintro e w1 ⟨rfl, hbel⟩
  have HB1 := hide (HB0.out.below hbel)
  have HC1 := hide (HC0.out.below hbel)
  have HN1 := hide (HN0.out.trans (hbel.mono (by simp)))
  clear HB0 HC0 HN0 hbel
  have p0 := HC1.out.cell 0
  have p1 := HC1.out.cell 1
  have p2 := HC1.out.cell 2
  simp only [List.getElem?_toArray, List.getElem?_cons_zero, List.getElem?_cons_succ] at p0 p1 p2
  go_wp2_with fail
  refine (make_any bs0 _ _ _ _ _ _ HB1.out HU0.out hs0 hb0).mono ?_
  rintro e w2 ⟨ao, d, rfl, hR, hbel⟩
  rw [hS.out, hB.out, hbs.out, hn]
  rw [hbs.out, hn] at hR
  have HR := hide (hR.alloc (cfg ao n d S B))
  have HRF := hide (hR.far hn0.1)
  have HX := hide (OAt.new w2 (cfg ao n d S B))
  have HN := hide ((HN1.out.trans (hbel.mono HN1.out.size)).alloc (by have := HN1.out.size; have := hbel.size; omega) (cfg ao n d S B))
  have hcg : Hid (w.heap.size < w2.heap.size) := Nat.lt_of_lt_of_le HC1.out.lt hbel.size
  clear HB1 HC1 HN1 hbel p0 p1 p2 hR
  go_upto_region 4 with fail
  generalize hW : w2.alloc (cfg ao n d S B) = W at HR HX HN 
  have hWs : W.heap.size = w2.heap.size + 1 := by rw [← hW]; simp
  clear hW
  obtain ⟨hc, hhc⟩ : ∃ x, Hid (w2.heap.size = x) := ⟨_, rfl⟩
  rw [hhc.out] at HX HRF hWs hcg ⊢
  have hxs : Hid (∀ w', Below W.heap.size W w' → w'.cell? ⟨hc, 0, none⟩ = some (.slice ao n d) ∧ w'.cell? ⟨hc, 1, none⟩ = some (.int .i64 S) ∧ w'.cell? ⟨hc, 2, none⟩ = some (.int .i64 B)) := fun w' h => by
    have V := HX.out.below h
    exact ⟨V.cell 0, V.cell 1, V.cell 2⟩
  go_wp2_with fail
  refine (chain_any a1 hcb W).mono ?_
  rintro ek W1 ⟨cap, rfl, hch, hbel⟩
  have HCH := hide hch
  replace HX := hide (HX.out.below hbel)
  replace HR := hide (HR.out.below hbel)
  replace HN := hide (HN.out.trans (hbel.mono HN.out.size))
  have hW1 := hbel.size
  have q0 := HX.out.cell 0
  have q1 := HX.out.cell 1
  have q2 := HX.out.cell 2
  simp only [List.getElem?_toArray, List.getElem?_cons_zero, List.getElem?_cons_succ] at q0 q1 q2
  clear hch hbel hxs
  go_wp2_with fail
  refine (open_led ao n d S B 7 W1 hn0.2).mono ?_
  rintro eo W2 ⟨g1, g2, rfl, o1, o2, l12, l1, hbel⟩
  have HT := hide (OAt.new W2 (lobj jz 0 none 0 0 none 0 0))
  obtain ⟨gs, hgs⟩ : ∃ x, Hid (W2.heap.size = x) := ⟨_, rfl⟩
  obtain ⟨W3, hrun, ho3, ha3⟩ := store_obj (P := Try.prog) (ty := 39) (n := 13) (cs := (lcells (JS.first 7) 0 (some ⟨g1, 0, none⟩) n n (some ⟨g2, 0, none⟩) n n).toList) infoLS rfl rfl (lcells_one _ _ _ _ _ _ _ _) HT.out.at_
  have hrun' := hide hrun
  have hb23 : Below W2.heap.size W2 W3 := (below_alloc W2 (lobj jz 0 none 0 0 none 0 0)).trans (ha3.old W2.heap.size (by simp) (Nat.le_refl _))
  have L2 := o2.lt
  have HB1 := hide (hbel.trans (hb23.mono hbel.size))
  have HX3 := hide ((HX.out.below hbel).below hb23)
  have HR3 := hide ((HR.out.below hbel).below hb23)
  have O1 := hide (RowB.obj (n := n) (o1.below hb23) (by simp) (by unfold maxLen; omega))
  have O2 : Hid (OAt W3 g2 (bobj (pre n 0))) := o2.below hb23
  have HS3 : Hid (OAt W3 gs (lobj (JS.first 7) 0 (some ⟨g1, 0, none⟩) n n (some ⟨g2, 0, none⟩) n n)) := by rw [← hgs.out]; exact OAt.of ho3
  have HN3 := hide ((HN.out.trans (hbel.mono HN.out.size)).trans (hb23.mono (Nat.le_trans HN.out.size hbel.size)))
  have hsz : Hid (hc < W1.heap.size ∧ W1.heap.size ≤ g1 ∧ g1 < g2 ∧ g2 < gs) := hide ⟨by omega, l1, l12, by rw [← hgs.out]; exact L2⟩
  clear q0 q1 q2 hbel o1 o2 l12 l1 HT hrun ho3 ha3 hb23 L2 HX HR HN
  go_upto_region 6 with (refine wpList_store_at 39 (.tmp 11) (.tmp 21) rfl rfl _ _ rfl rfl W3 hrun'.out ?_)
  rw [hgs.out]
  have hl := HS3.out.lc
  clear hrun'
  go_wp2
  go_loopw [25] (fun i wr => ∃ k : Nat, k ≤ n ∧ i = .int .i64 k ∧ Hid (OAt wr g2 (bobj (pre n k)) ∧ Apart g2 W3 wr)) (fun i _ => n - (intOf i).toNat)
  case atStart => exact ⟨0, Nat.zero_le _, rfl, hide ⟨O2.out, Apart.refl _ _⟩⟩
  case round =>
    clear hl O2
    obtain ⟨k, hk, rfl, hI⟩ := hrel
    obtain ⟨ho, hap⟩ := hI.out
    obtain ⟨z1, z2, z3, z4⟩ := hsz.out
    have hS2 := HS3.out.apart hap (by omega)
    have hl := hS2.lc
    by_cases hlt : k < n
    · have hcl := ho.cell k
      rw [List.getElem?_toArray, getB _ (pre_len n k hk) k hlt] at hcl
      have hf := ho.soft k
      have hX3 : OAt (wr.setCell ⟨g2, k, none⟩ (.bool (pN k))) g2 (bobj (pre n (k + 1))) := by
        have h := ho.set k (.bool (pN k))
        rw [← pre_set n k hlt]
        unfold bobj
        rw [List.map_set]
        simpa using h
      have HO := hide (And.intro hX3 (hap.set k (.bool (pN k))))
      clear hI ho hap hX3 hS2
      go_wp2
      go_roundw
      case rel => exact ⟨k + 1, by omega, by go_num, HO⟩
      case measure => simp [intOf]; omega
    · have hkk : k = n := by omega
      subst hkk
      have HXr := hide (HX3.out.apart hap (by omega))
      have HSr := hide hS2
      have HRr := hide (HR3.out.aside hap (fun b off e => by have := HRF.out b off e; omega))
      have HA1 := hide (O1.out.aside hap (fun b off e => by cases e; omega))
      have HA2 := hide (RowB.obj (n := k) ho (pre_len k k (Nat.le_refl _)) (by unfold maxLen; omega))
      have HNr := hide (HN3.out.trans (hap.old _ HN3.out.size (by have := hcg.out; omega)))
      have HCHr := hide (HCH.out.below (HB1.out.trans (hap.old _ HB1.out.size (by omega))))
      have hgr : Hid (gs < wr.heap.size) := hide hS2.lt
      obtain ⟨S1, hS1⟩ : ∃ x : LS, Hid (x = ⟨JS.first 7, 0, List.replicate k false, pre k k⟩) := ⟨_, rfl⟩
      obtain ⟨X, hX⟩ : ∃ x, Hid (advS bs S (chf a1) S1 (a2 + a3) = x) := ⟨_, rfl⟩
      obtain ⟨M, hM⟩ : ∃ x, Hid (advS bs S (chf a1) S1 a2 = x) := ⟨_, rfl⟩
      have hS1e : S1.e = 0 := by rw [hS1.out]
      have hX2 : Hid (advS bs S (chf a1) M (a2 + a3) = X) := by rw [← hM.out, ← hX.out]; exact hide (adv_two bs S (chf a1) S1 a2 a3 hS1e hSb hta htb)
      have hX0 : Hid (advS bs S (chf a1) S1 0 = S1) := hide (adv_zero bs S (chf a1) S1 hS1e hSb)
      have hMe : I64s M.e := by
        have q1 : 0 ≤ a2 / S ∧ a2 / S ≤ 255 := ⟨Int.ediv_nonneg hta.1 (by omega), Int.le_trans (Int.ediv_le_self _ hta.1) hta.2⟩
        have e1 := adv_from bs S (chf a1) S1 a2 (by omega) hSb hta.1 (by omega)
        rw [hM.out] at e1
        rw [e1, advK_e]
        unfold I64s
        split <;> omega
      have hS1i : I64s S1.e := by rw [hS1e]; unfold I64s; omega
      clear hS1e
      have ha2i : I64s a2 := by unfold I64s; omega
      have ha23i : I64s (a2 + a3) := by unfold I64s; omega
      have h0i : I64s 0 := by unfold I64s; omega
      replace HSr : Hid (OAt wr gs (lobj S1.j S1.e (some ⟨g1, 0, none⟩) k k (some ⟨g2, 0, none⟩) k k)) := by rw [hS1.out]; exact HSr
      replace HA1 : Hid (RowB wr (some ⟨g1, 0, none⟩) k k S1.bf) := by rw [hS1.out]; exact HA1
      replace HA2 : Hid (RowB wr (some ⟨g2, 0, none⟩) k k S1.nw) := by rw [hS1.out]; exact HA2
      have hxs : Hid (∀ w', Below wr.heap.size wr w' → w'.cell? ⟨hc, 0, none⟩ = some (.slice ao k d) ∧ w'.cell? ⟨hc, 1, none⟩ = some (.int .i64 S) ∧ w'.cell? ⟨hc, 2, none⟩ = some (.int .i64 B)) := fun w' h => by
        have V := HXr.out.below h
        exact ⟨V.cell 0, V.cell 1, V.cell 2⟩
      have hss : Hid (∀ w', Below wr.heap.size wr w' → (Instr.loadAt 39 (.pointer (some ⟨gs, 0, none⟩))).run Try.prog w' = .ok (.agg (lcells S1.j S1.e (some ⟨g1, 0, none⟩) k k (some ⟨g2, 0, none⟩) k k)) w') := fun w' h => load_obj Try.underlying39 infoLS rfl (HSr.out.below h).at_
      clear hI ho hap hS2 hl O1 HX3 HS3 HR3 HN3 HCH HB1 HRF
      go_upto_region 11 with fail
      go_cut [13] from 36 to 49 (fun x wx => ∃ g b1 d1 b2 d2, x = Value.pointer (some ⟨g, 0, none⟩) ∧ Hid (OAt wx g (lobj X.j X.e b1 k d1 b2 k d2) ∧ RowB wx b1 k d1 X.bf ∧ RowB wx b2 k d2 X.nw ∧ wr.heap.size ≤ g ∧ Below wr.heap.size wr wx))
      case first =>
        have HB : Hid (Below wr.heap.size wr wr.drew) := hide (Below.refl _ _).drew
        refine wp_region_noPanic ?_
        refine wp_region_held_drew (S := fun w' => Below wr.heap.size wr w') (by kernel_rfl) HB.out (fun hHeld => ?_)
        replace HRr := hide (HRr.out.below HB.out)
        replace HA1 := hide (HA1.out.below HB.out)
        replace HA2 := hide (HA2.out.below HB.out)
        replace HCHr := hide (HCHr.out.below HB.out)
        generalize wr.drew = w0 at HB hHeld HRr HA1 HA2 HCHr ⊢
        refine take_set (i := 0) (v := .agg #[.slice ao k d, .int .i64 S, .int .i64 B]) rfl rfl (by kernel_rfl) (by kernel_rfl) (by kernel_rfl) (fun _ _ _ h => h) (Or.inl ⟨by kernel_rfl, fun w' hSw => ?_⟩) hHeld ?_
        · have hl := hxs.out w' hSw; go_simp
        simp only [List.set_cons_succ, List.set_cons_zero]
        refine take_set (i := 1) (v := .agg #[.slice ao k d, .int .i64 S, .int .i64 B]) rfl rfl (by kernel_rfl) (by kernel_rfl) (by kernel_rfl) (fun _ _ _ h => h) (Or.inl ⟨by kernel_rfl, fun w' hSw => ?_⟩) hHeld ?_
        · have hl := hxs.out w' hSw; go_simp
        simp only [List.set_cons_succ, List.set_cons_zero]
        refine take_set (i := 2) (v := .agg (lcells S1.j S1.e (some ⟨g1, 0, none⟩) k k (some ⟨g2, 0, none⟩) k k)) rfl rfl (by kernel_rfl) (by kernel_rfl) (by kernel_rfl) (fun _ _ _ h => h) (Or.inl ⟨by kernel_rfl, fun w' hSw => ?_⟩) hHeld ?_
        · exact run_load_whole 39 (.tmp 11) rfl _ _ rfl (hss.out w' hSw)
        simp only [List.set_cons_succ, List.set_cons_zero]
        refine take_set (i := 3) (v := .int .u8 a2) rfl rfl (by kernel_rfl) (by kernel_rfl) (by kernel_rfl) (fun _ _ _ h => h) (Or.inl ⟨by kernel_rfl, fun w' hSw => ?_⟩) hHeld ?_
        · go_simp
        simp only [List.set_cons_succ, List.set_cons_zero]
        refine take_set (i := 4) (v := .int .i64 a2) rfl rfl (by kernel_rfl) (by kernel_rfl) (by kernel_rfl) (fun _ _ _ h => h) (Or.inl ⟨by kernel_rfl, fun w' hSw => ?_⟩) hHeld ?_
        · go_simp
        simp only [List.set_cons_succ, List.set_cons_zero]
        refine take_set (i := 5) (v := chv 28 cap) rfl rfl (by kernel_rfl) (by kernel_rfl) (by kernel_rfl) (fun _ _ _ h => h) (Or.inl ⟨by kernel_rfl, fun w' hSw => ?_⟩) hHeld ?_
        · go_simp
        simp only [List.set_cons_succ, List.set_cons_zero]
        refine take_set (i := 7) (v := .int .u8 a2) rfl rfl (by kernel_rfl) (by kernel_rfl) (by kernel_rfl) (fun _ _ _ h => h) (Or.inl ⟨by kernel_rfl, fun w' hSw => ?_⟩) hHeld ?_
        · go_simp
        simp only [List.set_cons_succ, List.set_cons_zero]
        refine take_set (i := 8) (v := .int .i64 a2) rfl rfl (by kernel_rfl) (by kernel_rfl) (by kernel_rfl) (fun _ _ _ h => h) (Or.inl ⟨by kernel_rfl, fun w' hSw => ?_⟩) hHeld ?_
        · go_simp
        simp only [List.set_cons_succ, List.set_cons_zero]
        refine take_set (i := 9) (v := .int .u8 a3) rfl rfl (by kernel_rfl) (by kernel_rfl) (by kernel_rfl) (fun _ _ _ h => h) (Or.inl ⟨by kernel_rfl, fun w' hSw => ?_⟩) hHeld ?_
        · go_simp
        simp only [List.set_cons_succ, List.set_cons_zero]
        refine take_set (i := 10) (v := .int .i64 a3) rfl rfl (by kernel_rfl) (by kernel_rfl) (by kernel_rfl) (fun _ _ _ h => h) (Or.inl ⟨by kernel_rfl, fun w' hSw => ?_⟩) hHeld ?_
        · go_simp
        simp only [List.set_cons_succ, List.set_cons_zero]
        refine take_set (i := 11) (v := .int .i64 (a2 + a3)) rfl rfl (by kernel_rfl) (by kernel_rfl) (by kernel_rfl) (fun _ _ _ h => h) (Or.inl ⟨by kernel_rfl, fun w' hSw => ?_⟩) hHeld ?_
        · go_simp
        simp only [List.set_cons_succ, List.set_cons_zero]
        refine take_set (i := 12) (v := chv 28 cap) rfl rfl (by kernel_rfl) (by kernel_rfl) (by kernel_rfl) (fun _ _ _ h => h) (Or.inl ⟨by kernel_rfl, fun w' hSw => ?_⟩) hHeld ?_
        · go_simp
        simp only [List.set_cons_succ, List.set_cons_zero]
        refine wpAnyH_ready (rs := [6, 14]) (by kernel_rfl) (by simp) ?_
        refine AllReadyH.cons (o := _) rfl (fun K hK => ?_) (AllReadyH.cons (o := _) rfl (fun K hK => ?_) (AllReadyH.nil))
        · go_simp
          refine (adv_led bs S1 28 cap (chf a1) ao k d S B (some ⟨g1, 0, none⟩) k (some ⟨g2, 0, none⟩) k a2 w0 HRr.out hu.out HA1.out HA2.out hn0 enters_law HCHr.out hS1i hSi ha2i).mono ?_
          rintro ea wq1 ⟨u1, v1, u2, v2, rfl, r1, r2, e1, e2, hbel⟩
          rw [hM.out] at r1 r2 ⊢
          replace HRr := hide (HRr.out.below hbel)
          replace HA1 := hide (HA1.out.below hbel)
          replace HA2 := hide (HA2.out.below hbel)
          replace HCHr := hide (HCHr.out.below hbel)
          replace HB := hide (HB.out.trans (hbel.mono HB.out.size))
          have P1 := hide (r1)
          have P2 := hide (r2)
          have z1 : Hid (w0.heap.size ≤ wq1.heap.size) := hide hbel.size
          clear hbel r1 r2 e1 e2
          refine hK.out _ _ (HB.out) (fun hHeld => ?_)
          clear hK K
          refine wpAnyH_ready (rs := [13, 14]) (by kernel_rfl) (by simp) ?_
          refine AllReadyH.cons (o := _) rfl (fun K hK => ?_) (AllReadyH.cons (o := _) rfl (fun K hK => ?_) (AllReadyH.nil))
          · go_simp
            refine (adv_led bs M 28 cap (chf a1) ao k d S B u1 v1 u2 v2 (a2 + a3) wq1 HRr.out hu.out P1.out P2.out hn0 enters_law HCHr.out hMe hSi ha23i).mono ?_
            rintro ea wq2 ⟨b1, d1, b2, d2, rfl, r1, r2, e1, e2, hbel⟩
            rw [hX2.out] at r1 r2 ⊢
            replace HRr := hide (HRr.out.below hbel)
            replace HA1 := hide (HA1.out.below hbel)
            replace HA2 := hide (HA2.out.below hbel)
            replace HCHr := hide (HCHr.out.below hbel)
            replace P1 := hide (P1.out.below hbel)
            replace P2 := hide (P2.out.below hbel)
            replace HB := hide (HB.out.trans (hbel.mono HB.out.size))
            have Q1 := hide (r1)
            have Q2 := hide (r2)
            have z2 : Hid (wq1.heap.size ≤ wq2.heap.size) := hide hbel.size
            have N1 : Hid (∀ b off, b1 = some ⟨b, off, none⟩ → wq1.heap.size ≤ b ∧ b < wq2.heap.size) := hide (fun b off e => ⟨e1 b off e, r1.far (hn0.1) b off e⟩)
            have N2 : Hid (∀ b off, b2 = some ⟨b, off, none⟩ → wq1.heap.size ≤ b ∧ b < wq2.heap.size) := hide (fun b off e => ⟨e2 b off e, r2.far (hn0.1) b off e⟩)
            clear hbel r1 r2 e1 e2
            refine hK.out _ _ (HB.out) (fun hHeld => ?_)
            clear hK K
            have hbel := below_alloc wq2 (lobj jz 0 none 0 0 none 0 0)
            have HT := hide (OAt.new wq2 (lobj jz 0 none 0 0 none 0 0))
            refine wpAnyH_ready (rs := [14]) (by kernel_rfl) (by simp) ?_
            refine AllReadyH.cons (o := _) rfl (fun K hK => ?_) AllReadyH.nil
            go_simp
            refine hK.out _ _ (HB.out.trans (hbel.mono HB.out.size)) (fun hHeld => ?_)
            clear hK K
            have z3 : Hid ((wq2.alloc (lobj jz 0 none 0 0 none 0 0)).heap.size = wq2.heap.size + 1) := hide (by simp)
            generalize wq2.alloc (lobj jz 0 none 0 0 none 0 0) = wq3 at hbel HT hHeld z3 ⊢
            replace HRr := hide (HRr.out.below hbel)
            replace HA1 := hide (HA1.out.below hbel)
            replace HA2 := hide (HA2.out.below hbel)
            replace HCHr := hide (HCHr.out.below hbel)
            replace P1 := hide (P1.out.below hbel)
            replace P2 := hide (P2.out.below hbel)
            replace Q1 := hide (Q1.out.below hbel)
            replace Q2 := hide (Q2.out.below hbel)
            have HTs : Hid (wr.heap.size ≤ wq2.heap.size) := hide HB.out.size
            replace HB := hide (HB.out.trans (hbel.mono HB.out.size))
            clear hbel
            obtain ⟨gT, gTe⟩ : ∃ x, Hid (wq2.heap.size = x) := ⟨_, rfl⟩
            rw [gTe.out] at HT HTs ⊢
            refine wpAnyH_ready (rs := [15]) (by kernel_rfl) (by simp) ?_
            refine AllReadyH.cons (o := _) rfl (fun K hK => ?_) AllReadyH.nil
            obtain ⟨wq4, hrun, hoS, haS⟩ := store_obj (P := Try.prog) (ty := 39) (n := 13) (cs := (lcells X.j X.e b1 k d1 b2 k d2).toList) infoLS rfl rfl (lcells_one _ _ _ _ _ _ _ _) HT.out.at_
            have y1 := z1.out
            have y2 := z2.out
            have y3 := z3.out
            have yT := HTs.out
            have yg := gTe.out
            refine step_store_at 39 (.tmp 13) (.tmp 49) rfl rfl _ _ rfl rfl wq4 hrun ?_
            have HG := hide ((show OAt wq4 gT (.cells (lcells X.j X.e b1 k d1 b2 k d2) 39) from OAt.of hoS))
            have K1 := hide (Q1.out.aside haS (fun b off e => by have := N1.out b off e; omega))
            have K2 := hide (Q2.out.aside haS (fun b off e => by have := N2.out b off e; omega))
            have HBB := hide (HB.out.trans (haS.old _ HB.out.size (by omega)))
            have M1 := hide ((fun b off e => by have := N1.out b off e; omega : ∀ b off, b1 = some ⟨b, off, none⟩ → b ≠ gT))
            have M2 := hide ((fun b off e => by have := N2.out b off e; omega : ∀ b off, b2 = some ⟨b, off, none⟩ → b ≠ gT))
            refine hK.out _ _ ((HB.out.trans (haS.old _ HB.out.size (by omega)))) (fun hHeld => ?_)
            clear hK K
            refine wpAnyH_done (by kernel_rfl) ?_ _
            refine NoPanic.normal ?_
            go_wp2
            go_meet
            exact ⟨gT, b1, d1, b2, d2, rfl, hide ⟨HG.out, K1.out, K2.out, HTs.out, HBB.out⟩⟩
          · have hbel := below_alloc wq1 (lobj jz 0 none 0 0 none 0 0)
            have HT := hide (OAt.new wq1 (lobj jz 0 none 0 0 none 0 0))
            go_simp
            refine hK.out _ _ (HB.out.trans (hbel.mono HB.out.size)) (fun hHeld => ?_)
            clear hK K
            have z2 : Hid ((wq1.alloc (lobj jz 0 none 0 0 none 0 0)).heap.size = wq1.heap.size + 1) := hide (by simp)
            generalize wq1.alloc (lobj jz 0 none 0 0 none 0 0) = wq2 at hbel HT hHeld z2 ⊢
            replace HRr := hide (HRr.out.below hbel)
            replace HA1 := hide (HA1.out.below hbel)
            replace HA2 := hide (HA2.out.below hbel)
            replace HCHr := hide (HCHr.out.below hbel)
            replace P1 := hide (P1.out.below hbel)
            replace P2 := hide (P2.out.below hbel)
            have HTs : Hid (wr.heap.size ≤ wq1.heap.size) := hide HB.out.size
            replace HB := hide (HB.out.trans (hbel.mono HB.out.size))
            clear hbel
            obtain ⟨gT, gTe⟩ : ∃ x, Hid (wq1.heap.size = x) := ⟨_, rfl⟩
            rw [gTe.out] at HT HTs ⊢
            refine wpAnyH_ready (rs := [13]) (by kernel_rfl) (by simp) ?_
            refine AllReadyH.cons (o := _) rfl (fun K hK => ?_) AllReadyH.nil
            go_simp
            refine (adv_led bs M 28 cap (chf a1) ao k d S B u1 v1 u2 v2 (a2 + a3) wq2 HRr.out hu.out P1.out P2.out hn0 enters_law HCHr.out hMe hSi ha23i).mono ?_
            rintro ea wq3 ⟨b1, d1, b2, d2, rfl, r1, r2, e1, e2, hbel⟩
            rw [hX2.out] at r1 r2 ⊢
            replace HRr := hide (HRr.out.below hbel)
            replace HA1 := hide (HA1.out.below hbel)
            replace HA2 := hide (HA2.out.below hbel)
            replace HCHr := hide (HCHr.out.below hbel)
            replace P1 := hide (P1.out.below hbel)
            replace P2 := hide (P2.out.below hbel)
            replace HT := hide (HT.out.below hbel)
            replace HB := hide (HB.out.trans (hbel.mono HB.out.size))
            have Q1 := hide (r1)
            have Q2 := hide (r2)
            have z3 : Hid (wq2.heap.size ≤ wq3.heap.size) := hide hbel.size
            have N1 : Hid (∀ b off, b1 = some ⟨b, off, none⟩ → wq2.heap.size ≤ b ∧ b < wq3.heap.size) := hide (fun b off e => ⟨e1 b off e, r1.far (hn0.1) b off e⟩)
            have N2 : Hid (∀ b off, b2 = some ⟨b, off, none⟩ → wq2.heap.size ≤ b ∧ b < wq3.heap.size) := hide (fun b off e => ⟨e2 b off e, r2.far (hn0.1) b off e⟩)
            clear hbel r1 r2 e1 e2
            refine hK.out _ _ (HB.out) (fun hHeld => ?_)
            clear hK K
            refine wpAnyH_ready (rs := [15]) (by kernel_rfl) (by simp) ?_
            refine AllReadyH.cons (o := _) rfl (fun K hK => ?_) AllReadyH.nil
            obtain ⟨wq4, hrun, hoS, haS⟩ := store_obj (P := Try.prog) (ty := 39) (n := 13) (cs := (lcells X.j X.e b1 k d1 b2 k d2).toList) infoLS rfl rfl (lcells_one _ _ _ _ _ _ _ _) HT.out.at_
            have y1 := z1.out
            have y2 := z2.out
            have y3 := z3.out
            have yT := HTs.out
            have yg := gTe.out
            refine step_store_at 39 (.tmp 13) (.tmp 49) rfl rfl _ _ rfl rfl wq4 hrun ?_
            have HG := hide ((show OAt wq4 gT (.cells (lcells X.j X.e b1 k d1 b2 k d2) 39) from OAt.of hoS))
            have K1 := hide (Q1.out.aside haS (fun b off e => by have := N1.out b off e; omega))
            have K2 := hide (Q2.out.aside haS (fun b off e => by have := N2.out b off e; omega))
            have HBB := hide (HB.out.trans (haS.old _ HB.out.size (by omega)))
            have M1 := hide ((fun b off e => by have := N1.out b off e; omega : ∀ b off, b1 = some ⟨b, off, none⟩ → b ≠ gT))
            have M2 := hide ((fun b off e => by have := N2.out b off e; omega : ∀ b off, b2 = some ⟨b, off, none⟩ → b ≠ gT))
            refine hK.out _ _ ((HB.out.trans (haS.old _ HB.out.size (by omega)))) (fun hHeld => ?_)
            clear hK K
            refine wpAnyH_done (by kernel_rfl) ?_ _
            refine NoPanic.normal ?_
            go_wp2
            go_meet
            exact ⟨gT, b1, d1, b2, d2, rfl, hide ⟨HG.out, K1.out, K2.out, HTs.out, HBB.out⟩⟩
        · have hbel := below_alloc w0 (lobj jz 0 none 0 0 none 0 0)
          have HT := hide (OAt.new w0 (lobj jz 0 none 0 0 none 0 0))
          go_simp
          refine hK.out _ _ (HB.out.trans (hbel.mono HB.out.size)) (fun hHeld => ?_)
          clear hK K
          have z1 : Hid ((w0.alloc (lobj jz 0 none 0 0 none 0 0)).heap.size = w0.heap.size + 1) := hide (by simp)
          generalize w0.alloc (lobj jz 0 none 0 0 none 0 0) = wq1 at hbel HT hHeld z1 ⊢
          replace HRr := hide (HRr.out.below hbel)
          replace HA1 := hide (HA1.out.below hbel)
          replace HA2 := hide (HA2.out.below hbel)
          replace HCHr := hide (HCHr.out.below hbel)
          have HTs : Hid (wr.heap.size ≤ w0.heap.size) := hide HB.out.size
          replace HB := hide (HB.out.trans (hbel.mono HB.out.size))
          clear hbel
          obtain ⟨gT, gTe⟩ : ∃ x, Hid (w0.heap.size = x) := ⟨_, rfl⟩
          rw [gTe.out] at HT HTs ⊢
          refine wpAnyH_ready (rs := [6]) (by kernel_rfl) (by simp) ?_
          refine AllReadyH.cons (o := _) rfl (fun K hK => ?_) AllReadyH.nil
          go_simp
          refine (adv_led bs S1 28 cap (chf a1) ao k d S B (some ⟨g1, 0, none⟩) k (some ⟨g2, 0, none⟩) k a2 wq1 HRr.out hu.out HA1.out HA2.out hn0 enters_law HCHr.out hS1i hSi ha2i).mono ?_
          rintro ea wq2 ⟨u1, v1, u2, v2, rfl, r1, r2, e1, e2, hbel⟩
          rw [hM.out] at r1 r2 ⊢
          replace HRr := hide (HRr.out.below hbel)
          replace HA1 := hide (HA1.out.below hbel)
          replace HA2 := hide (HA2.out.below hbel)
          replace HCHr := hide (HCHr.out.below hbel)
          replace HT := hide (HT.out.below hbel)
          replace HB := hide (HB.out.trans (hbel.mono HB.out.size))
          have P1 := hide (r1)
          have P2 := hide (r2)
          have z2 : Hid (wq1.heap.size ≤ wq2.heap.size) := hide hbel.size
          clear hbel r1 r2 e1 e2
          refine hK.out _ _ (HB.out) (fun hHeld => ?_)
          clear hK K
          refine wpAnyH_ready (rs := [13]) (by kernel_rfl) (by simp) ?_
          refine AllReadyH.cons (o := _) rfl (fun K hK => ?_) AllReadyH.nil
          go_simp
          refine (adv_led bs M 28 cap (chf a1) ao k d S B u1 v1 u2 v2 (a2 + a3) wq2 HRr.out hu.out P1.out P2.out hn0 enters_law HCHr.out hMe hSi ha23i).mono ?_
          rintro ea wq3 ⟨b1, d1, b2, d2, rfl, r1, r2, e1, e2, hbel⟩
          rw [hX2.out] at r1 r2 ⊢
          replace HRr := hide (HRr.out.below hbel)
          replace HA1 := hide (HA1.out.below hbel)
          replace HA2 := hide (HA2.out.below hbel)
          replace HCHr := hide (HCHr.out.below hbel)
          replace HT := hide (HT.out.below hbel)
          replace P1 := hide (P1.out.below hbel)
          replace P2 := hide (P2.out.below hbel)
          replace HB := hide (HB.out.trans (hbel.mono HB.out.size))
          have Q1 := hide (r1)
          have Q2 := hide (r2)
          have z3 : Hid (wq2.heap.size ≤ wq3.heap.size) := hide hbel.size
          have N1 : Hid (∀ b off, b1 = some ⟨b, off, none⟩ → wq2.heap.size ≤ b ∧ b < wq3.heap.size) := hide (fun b off e => ⟨e1 b off e, r1.far (hn0.1) b off e⟩)
          have N2 : Hid (∀ b off, b2 = some ⟨b, off, none⟩ → wq2.heap.size ≤ b ∧ b < wq3.heap.size) := hide (fun b off e => ⟨e2 b off e, r2.far (hn0.1) b off e⟩)
          clear hbel r1 r2 e1 e2
          refine hK.out _ _ (HB.out) (fun hHeld => ?_)
          clear hK K
          refine wpAnyH_ready (rs := [15]) (by kernel_rfl) (by simp) ?_
          refine AllReadyH.cons (o := _) rfl (fun K hK => ?_) AllReadyH.nil
          obtain ⟨wq4, hrun, hoS, haS⟩ := store_obj (P := Try.prog) (ty := 39) (n := 13) (cs := (lcells X.j X.e b1 k d1 b2 k d2).toList) infoLS rfl rfl (lcells_one _ _ _ _ _ _ _ _) HT.out.at_
          have y1 := z1.out
          have y2 := z2.out
          have y3 := z3.out
          have yT := HTs.out
          have yg := gTe.out
          refine step_store_at 39 (.tmp 13) (.tmp 49) rfl rfl _ _ rfl rfl wq4 hrun ?_
          have HG := hide ((show OAt wq4 gT (.cells (lcells X.j X.e b1 k d1 b2 k d2) 39) from OAt.of hoS))
          have K1 := hide (Q1.out.aside haS (fun b off e => by have := N1.out b off e; omega))
          have K2 := hide (Q2.out.aside haS (fun b off e => by have := N2.out b off e; omega))
          have HBB := hide (HB.out.trans (haS.old _ HB.out.size (by omega)))
          have M1 := hide ((fun b off e => by have := N1.out b off e; omega : ∀ b off, b1 = some ⟨b, off, none⟩ → b ≠ gT))
          have M2 := hide ((fun b off e => by have := N2.out b off e; omega : ∀ b off, b2 = some ⟨b, off, none⟩ → b ≠ gT))
          refine hK.out _ _ ((HB.out.trans (haS.old _ HB.out.size (by omega)))) (fun hHeld => ?_)
          clear hK K
          refine wpAnyH_done (by kernel_rfl) ?_ _
          refine NoPanic.normal ?_
          go_wp2
          go_meet
          exact ⟨gT, b1, d1, b2, d2, rfl, hide ⟨HG.out, K1.out, K2.out, HTs.out, HBB.out⟩⟩
      case rest =>
        obtain ⟨g, b1, d1, b2, d2, rfl, hcc⟩ := hcut
        obtain ⟨hG, hQ1, hQ2, hgW, hbel⟩ := hcc.out
        have Q1 := hide hQ1
        have Q2 := hide hQ2
        have HGc := hide hG
        have HXc := hide (HXr.out.below hbel)
        have HSc := hide (HSr.out.below hbel)
        replace HRr := hide (HRr.out.below hbel)
        replace HA1 := hide (HA1.out.below hbel)
        replace HA2 := hide (HA2.out.below hbel)
        replace HCHr := hide (HCHr.out.below hbel)
        have HNc := hide (HNr.out.trans (hbel.mono HNr.out.size))
        have hxc : Hid (∀ w', Below wc.heap.size wc w' → w'.cell? ⟨hc, 0, none⟩ = some (.slice ao k d) ∧ w'.cell? ⟨hc, 1, none⟩ = some (.int .i64 S) ∧ w'.cell? ⟨hc, 2, none⟩ = some (.int .i64 B)) := fun w' h => by
          have V := HXc.out.below h
          exact ⟨V.cell 0, V.cell 1, V.cell 2⟩
        have hsc : Hid (∀ w', Below wc.heap.size wc w' → (Instr.loadAt 39 (.pointer (some ⟨gs, 0, none⟩))).run Try.prog w' = .ok (.agg (lcells S1.j S1.e (some ⟨g1, 0, none⟩) k k (some ⟨g2, 0, none⟩) k k)) w') := fun w' h => load_obj Try.underlying39 infoLS rfl (HSc.out.below h).at_
        have hgx : Hid (∀ w', Below wc.heap.size wc w' → (Instr.loadAt 39 (.pointer (some ⟨g, 0, none⟩))).run Try.prog w' = .ok (.agg (lcells X.j X.e b1 k d1 b2 k d2)) w') := fun w' h => load_obj Try.underlying39 infoLS rfl (HGc.out.below h).at_
        clear hcc hG hQ1 hQ2 hbel hxs hss HXr HSr HNr
        go_upto_region 12 with fail
        have HB : Hid (Below wc.heap.size wc wc.drew) := hide (Below.refl _ _).drew
        refine wp_region_noPanic ?_
        refine wp_region_held_drew (S := fun w' => Below wc.heap.size wc w') (by kernel_rfl) HB.out (fun hHeld => ?_)
        replace HRr := hide (HRr.out.below HB.out)
        replace HA1 := hide (HA1.out.below HB.out)
        replace HA2 := hide (HA2.out.below HB.out)
        replace HCHr := hide (HCHr.out.below HB.out)
        replace Q1 := hide (Q1.out.below HB.out)
        replace Q2 := hide (Q2.out.below HB.out)
        generalize wc.drew = w0 at HB hHeld HRr HA1 HA2 HCHr Q1 Q2 ⊢
        refine take_set (i := 0) (v := .agg (lcells X.j X.e b1 k d1 b2 k d2)) rfl rfl (by kernel_rfl) (by kernel_rfl) (by kernel_rfl) (fun _ _ _ h => h) (Or.inl ⟨by kernel_rfl, fun w' hSw => ?_⟩) hHeld ?_
        · exact run_load_whole 39 (.tmp 13) rfl _ _ rfl (hgx.out w' hSw)
        simp only [List.set_cons_succ, List.set_cons_zero]
        refine take_set (i := 1) (v := .agg #[.slice ao k d, .int .i64 S, .int .i64 B]) rfl rfl (by kernel_rfl) (by kernel_rfl) (by kernel_rfl) (fun _ _ _ h => h) (Or.inl ⟨by kernel_rfl, fun w' hSw => ?_⟩) hHeld ?_
        · have hl := hxc.out w' hSw; go_simp
        simp only [List.set_cons_succ, List.set_cons_zero]
        refine take_set (i := 2) (v := .agg (lcells S1.j S1.e (some ⟨g1, 0, none⟩) k k (some ⟨g2, 0, none⟩) k k)) rfl rfl (by kernel_rfl) (by kernel_rfl) (by kernel_rfl) (fun _ _ _ h => h) (Or.inl ⟨by kernel_rfl, fun w' hSw => ?_⟩) hHeld ?_
        · exact run_load_whole 39 (.tmp 11) rfl _ _ rfl (hsc.out w' hSw)
        simp only [List.set_cons_succ, List.set_cons_zero]
        refine take_set (i := 3) (v := .int .u8 a2) rfl rfl (by kernel_rfl) (by kernel_rfl) (by kernel_rfl) (fun _ _ _ h => h) (Or.inl ⟨by kernel_rfl, fun w' hSw => ?_⟩) hHeld ?_
        · go_simp
        simp only [List.set_cons_succ, List.set_cons_zero]
        refine take_set (i := 4) (v := .int .i64 a2) rfl rfl (by kernel_rfl) (by kernel_rfl) (by kernel_rfl) (fun _ _ _ h => h) (Or.inl ⟨by kernel_rfl, fun w' hSw => ?_⟩) hHeld ?_
        · go_simp
        simp only [List.set_cons_succ, List.set_cons_zero]
        refine take_set (i := 5) (v := .int .u8 a3) rfl rfl (by kernel_rfl) (by kernel_rfl) (by kernel_rfl) (fun _ _ _ h => h) (Or.inl ⟨by kernel_rfl, fun w' hSw => ?_⟩) hHeld ?_
        · go_simp
        simp only [List.set_cons_succ, List.set_cons_zero]
        refine take_set (i := 6) (v := .int .i64 a3) rfl rfl (by kernel_rfl) (by kernel_rfl) (by kernel_rfl) (fun _ _ _ h => h) (Or.inl ⟨by kernel_rfl, fun w' hSw => ?_⟩) hHeld ?_
        · go_simp
        simp only [List.set_cons_succ, List.set_cons_zero]
        refine take_set (i := 7) (v := .int .i64 (a2 + a3)) rfl rfl (by kernel_rfl) (by kernel_rfl) (by kernel_rfl) (fun _ _ _ h => h) (Or.inl ⟨by kernel_rfl, fun w' hSw => ?_⟩) hHeld ?_
        · go_simp
        simp only [List.set_cons_succ, List.set_cons_zero]
        refine take_set (i := 8) (v := chv 28 cap) rfl rfl (by kernel_rfl) (by kernel_rfl) (by kernel_rfl) (fun _ _ _ h => h) (Or.inl ⟨by kernel_rfl, fun w' hSw => ?_⟩) hHeld ?_
        · go_simp
        simp only [List.set_cons_succ, List.set_cons_zero]
        refine wpAnyH_ready (rs := [9]) (by kernel_rfl) (by simp) ?_
        refine AllReadyH.cons (o := _) rfl (fun K hK => ?_) AllReadyH.nil
        go_simp
        refine (adv_led bs S1 28 cap (chf a1) ao k d S B (some ⟨g1, 0, none⟩) k (some ⟨g2, 0, none⟩) k (a2 + a3) w0 HRr.out hu.out HA1.out HA2.out hn0 enters_law HCHr.out hS1i hSi ha23i).mono ?_
        rintro ea wq1 ⟨u1, v1, u2, v2, rfl, r1, r2, e1, e2, hbel⟩
        rw [hX.out] at r1 r2 ⊢
        replace HRr := hide (HRr.out.below hbel)
        replace HA1 := hide (HA1.out.below hbel)
        replace HA2 := hide (HA2.out.below hbel)
        replace HCHr := hide (HCHr.out.below hbel)
        replace Q1 := hide (Q1.out.below hbel)
        replace Q2 := hide (Q2.out.below hbel)
        replace HB := hide (HB.out.trans (hbel.mono HB.out.size))
        have P1 := hide (r1)
        have P2 := hide (r2)
        have z1 : Hid (w0.heap.size ≤ wq1.heap.size) := hide hbel.size
        clear hbel r1 r2 e1 e2
        refine hK.out _ _ (HB.out) (fun hHeld => ?_)
        clear hK K
        refine wpAnyH_ready (rs := [10]) (by kernel_rfl) (by simp) ?_
        refine AllReadyH.cons (o := _) rfl (fun K hK => ?_) AllReadyH.nil
        go_simp
        refine (same_led X b1 k d1 b2 k d2 u1 v1 u2 v2 wq1 Q1.out Q2.out P1.out P2.out hn0.1 hn0.1).mono ?_
        rintro es wq2 ⟨rfl, hbel⟩
        replace HRr := hide (HRr.out.below hbel)
        replace HA1 := hide (HA1.out.below hbel)
        replace HA2 := hide (HA2.out.below hbel)
        replace HCHr := hide (HCHr.out.below hbel)
        replace Q1 := hide (Q1.out.below hbel)
        replace Q2 := hide (Q2.out.below hbel)
        replace P1 := hide (P1.out.below hbel)
        replace P2 := hide (P2.out.below hbel)
        replace HB := hide (HB.out.trans (hbel.mono HB.out.size))
        have z2 : Hid (wq1.heap.size ≤ wq2.heap.size) := hide hbel.size
        clear hbel 
        refine hK.out _ _ (HB.out) (fun hHeld => ?_)
        clear hK K
        refine take_set (i := 11) (v := .bool true) rfl rfl (by kernel_rfl) (by kernel_rfl) (by kernel_rfl) (fun _ _ _ h => h) (Or.inl ⟨by kernel_rfl, fun w' hSw => ?_⟩) hHeld ?_
        · go_simp
        simp only [List.set_cons_succ, List.set_cons_zero]
        refine take_set (i := 12) (v := .agg #[.slice ao k d, .int .i64 S, .int .i64 B]) rfl rfl (by kernel_rfl) (by kernel_rfl) (by kernel_rfl) (fun _ _ _ h => h) (Or.inl ⟨by kernel_rfl, fun w' hSw => ?_⟩) hHeld ?_
        · have hl := hxc.out w' hSw; go_simp
        simp only [List.set_cons_succ, List.set_cons_zero]
        refine take_set (i := 13) (v := .agg (lcells S1.j S1.e (some ⟨g1, 0, none⟩) k k (some ⟨g2, 0, none⟩) k k)) rfl rfl (by kernel_rfl) (by kernel_rfl) (by kernel_rfl) (fun _ _ _ h => h) (Or.inl ⟨by kernel_rfl, fun w' hSw => ?_⟩) hHeld ?_
        · exact run_load_whole 39 (.tmp 11) rfl _ _ rfl (hsc.out w' hSw)
        simp only [List.set_cons_succ, List.set_cons_zero]
        refine take_set (i := 14) (v := chv 28 cap) rfl rfl (by kernel_rfl) (by kernel_rfl) (by kernel_rfl) (fun _ _ _ h => h) (Or.inl ⟨by kernel_rfl, fun w' hSw => ?_⟩) hHeld ?_
        · go_simp
        simp only [List.set_cons_succ, List.set_cons_zero]
        refine take_set (i := 16) (v := .agg (lcells S1.j S1.e (some ⟨g1, 0, none⟩) k k (some ⟨g2, 0, none⟩) k k)) rfl rfl (by kernel_rfl) (by kernel_rfl) (by kernel_rfl) (fun _ _ _ h => h) (Or.inl ⟨by kernel_rfl, fun w' hSw => ?_⟩) hHeld ?_
        · exact run_load_whole 39 (.tmp 11) rfl _ _ rfl (hsc.out w' hSw)
        simp only [List.set_cons_succ, List.set_cons_zero]
        refine wpAnyH_ready (rs := [15]) (by kernel_rfl) (by simp) ?_
        refine AllReadyH.cons (o := _) rfl (fun K hK => ?_) AllReadyH.nil
        go_simp
        refine (adv_led bs S1 28 cap (chf a1) ao k d S B (some ⟨g1, 0, none⟩) k (some ⟨g2, 0, none⟩) k 0 wq2 HRr.out hu.out HA1.out HA2.out hn0 enters_law HCHr.out hS1i hSi h0i).mono ?_
        rintro ea wq3 ⟨x1, y1, x2, y2, rfl, r1, r2, e1, e2, hbel⟩
        rw [hX0.out] at r1 r2 ⊢
        replace HRr := hide (HRr.out.below hbel)
        replace HA1 := hide (HA1.out.below hbel)
        replace HA2 := hide (HA2.out.below hbel)
        replace HCHr := hide (HCHr.out.below hbel)
        replace Q1 := hide (Q1.out.below hbel)
        replace Q2 := hide (Q2.out.below hbel)
        replace P1 := hide (P1.out.below hbel)
        replace P2 := hide (P2.out.below hbel)
        replace HB := hide (HB.out.trans (hbel.mono HB.out.size))
        have T1 := hide (r1)
        have T2 := hide (r2)
        have z3 : Hid (wq2.heap.size ≤ wq3.heap.size) := hide hbel.size
        clear hbel r1 r2 e1 e2
        refine hK.out _ _ (HB.out) (fun hHeld => ?_)
        clear hK K
        refine wpAnyH_ready (rs := [17]) (by kernel_rfl) (by simp) ?_
        refine AllReadyH.cons (o := _) rfl (fun K hK => ?_) AllReadyH.nil
        go_simp
        refine (same_led S1 x1 k y1 x2 k y2 (some ⟨g1, 0, none⟩) k (some ⟨g2, 0, none⟩) k wq3 T1.out T2.out HA1.out HA2.out hn0.1 hn0.1).mono ?_
        rintro es wq4 ⟨rfl, hbel⟩
        replace HRr := hide (HRr.out.below hbel)
        replace HA1 := hide (HA1.out.below hbel)
        replace HA2 := hide (HA2.out.below hbel)
        replace HCHr := hide (HCHr.out.below hbel)
        replace Q1 := hide (Q1.out.below hbel)
        replace Q2 := hide (Q2.out.below hbel)
        replace P1 := hide (P1.out.below hbel)
        replace P2 := hide (P2.out.below hbel)
        replace T1 := hide (T1.out.below hbel)
        replace T2 := hide (T2.out.below hbel)
        replace HB := hide (HB.out.trans (hbel.mono HB.out.size))
        have z4 : Hid (wq3.heap.size ≤ wq4.heap.size) := hide hbel.size
        clear hbel 
        refine hK.out _ _ (HB.out) (fun hHeld => ?_)
        clear hK K
        refine take_set (i := 18) (v := .bool true) rfl rfl (by kernel_rfl) (by kernel_rfl) (by kernel_rfl) (fun _ _ _ h => h) (Or.inl ⟨by kernel_rfl, fun w' hSw => ?_⟩) hHeld ?_
        · go_simp
        simp only [List.set_cons_succ, List.set_cons_zero]
        refine take_set (i := 19) (v := .bool true) rfl rfl (by kernel_rfl) (by kernel_rfl) (by kernel_rfl) (fun _ _ _ h => h) (Or.inl ⟨by kernel_rfl, fun w' hSw => ?_⟩) hHeld ?_
        · go_simp
        simp only [List.set_cons_succ, List.set_cons_zero]
        refine wpAnyH_done (by kernel_rfl) ?_ _
        refine NoPanic.normal ?_
        have HNf := hide (HNc.out.trans (HB.out.mono HNc.out.size))
        go_wp2
        go_ret
        exact ⟨rfl, HNf.out⟩

set_option maxRecDepth 100000 in
theorem lifted (os : Os) (started : os.Started) (H : Type) (enc : TypeId × Value → H) :
    ReturnsInHanded {} Try.checked os 4 .any (Rows.ledgerPartsSpec.pre6 enc Try.prog Try.f4 Rows.ledgerPartsRow.domain false) (Rows.ledgerPartsSpec.post enc Try.prog Try.f4 false true false false) := by
  refine returnsInHanded_of_change (C := Try.checked) own started (by kernel_rfl) Try.func4
    (ChangeSpec.witness6 (enc := enc) (C := Try.checked) false ⟨#[], #[.agg #[.slice none 0 0, .int .i64 0, .int .i64 0], .int .u8 0, .int .u8 0, .int .u8 0], []⟩ 8 (by kernel_rfl) (by kernel_rfl) (by kernel_rfl) (by kernel_rfl)) ?_
  intro W base args ds gs before hval0 hW hcnd _
  have hval : ∀ (j : Nat) t v, Try.f4.params[j]? = some t → args[j]? = some v → Value.okWide Try.prog W .any base t v := hval0
  have hW' := hW
  obtain ⟨p, q, hA0, hV, rfl, hfz, hnd⟩ := hW
  have hA : DataW.TrodAll enc Try.prog W 0 (fun _ => true) true Try.f4.params.toList args.toList ds p := hA0
  rw [Try.params4] at hA hval
  obtain ⟨v0, vs0, d0, ds0, p0, q0, hargs, rfl, rfl, h0, r0⟩ := trodAll_cons hA
  obtain ⟨v1, vs1, d1, ds1, p1, q1, rfl, rfl, rfl, h1, r1⟩ := trodAll_cons r0
  obtain ⟨v2, vs2, d2, ds2, p2, q2, rfl, rfl, rfl, h2, r2⟩ := trodAll_cons r1
  obtain ⟨v3, vs3, d3, ds3, p3, q3, rfl, rfl, rfl, h3, r3⟩ := trodAll_cons r2
  obtain ⟨rfl, rfl, rfl⟩ := trodAll_nil r3
  obtain rfl : args = #[v0, v1, v2, v3] := by cases args; simp_all
  obtain ⟨rfl, rfl⟩ := trodVars_none hV
  obtain ⟨cs0, rfl, sz0⟩ := okWide_struct Try.underlying24 (hval 0 24 v0 rfl rfl)
  rw [cells24] at sz0
  obtain ⟨l0⟩ := cs0
  obtain ⟨c0_0, c0_1, c0_2, rfl⟩ := list3 (show l0.length = 3 from sz0)
  clear sz0
  have k0 := h0
  have lt0 : ∀ x ∈ p0, x.block < W.heap.size := by obtain ⟨m, hm⟩ := k0; exact DataW.trod_lt m _ _ _ hm
  obtain ⟨fuel0, hf0⟩ := h0
  simp only [Value.cells] at hf0
  obtain ⟨xs0_0t24, n0_0t24, _, hx0_0t24, _, hlen0_0t24, hf0_0t24⟩ := DataW.trod_struct Try.underlying24 hf0
  obtain ⟨y0_0t24_0, y0_0t24_1, y0_0t24_2, rfl⟩ := list3 (show xs0_0t24.length = 3 from hlen0_0t24)
  have hy0_0t24_0 : DataW.trod enc Try.prog W 0 (fun _ => true) true n0_0t24 22 [c0_0] = some y0_0t24_0 := by simpa [Value.cells, cells3, cells4, cells5, cells22, cells24, cells32] using hf0_0t24 0 _ rfl
  have hy0_0t24_1 : DataW.trod enc Try.prog W 0 (fun _ => true) true n0_0t24 3 [c0_1] = some y0_0t24_1 := by simpa [Value.cells, cells3, cells4, cells5, cells22, cells24, cells32] using hf0_0t24 1 _ rfl
  have hy0_0t24_2 : DataW.trod enc Try.prog W 0 (fun _ => true) true n0_0t24 3 [c0_2] = some y0_0t24_2 := by simpa [Value.cells, cells3, cells4, cells5, cells22, cells24, cells32] using hf0_0t24 2 _ rfl
  obtain ⟨a0_0, len0_0, cap0_0, z0_0, e0_0, w0_0⟩ : ∃ a len cap zs, c0_0 = .slice a len cap ∧ IsRow .u64 W a len cap zs := by
    rcases open_ints Try.underlying22 Try.underlying32 (by kernel_rfl) hy0_0t24_0 with ⟨hcs, _⟩ | ⟨x, l, c, zs, hcs, _, hl, hm, hz, _, hcell, hwz⟩
    · simp at hcs
      exact ⟨none, 0, 0, [], hcs, .inl ⟨rfl, rfl, rfl, rfl⟩⟩
    · simp at hcs
      exact ⟨_, _, _, zs, hcs, .inr ⟨_, rfl, hl, hm, by simpa using hz, hcell, hwz⟩⟩
  subst e0_0
  obtain ⟨a0_1, e0_1, x0_1, w0_1⟩ := DataW.trod_int Try.underlying3 hy0_0t24_1
  simp at e0_1
  subst e0_1
  obtain ⟨a0_2, e0_2, x0_2, w0_2⟩ := DataW.trod_int Try.underlying3 hy0_0t24_2
  simp at e0_2
  subst e0_2
  obtain ⟨a1, rfl, rfl, rfl, w1⟩ := open_int Try.underlying5 (hval 1 5 v1 rfl rfl) h1
  obtain ⟨a2, rfl, rfl, rfl, w2⟩ := open_int Try.underlying5 (hval 2 5 v2 rfl rfl) h2
  obtain ⟨a3, rfl, rfl, rfl, w3⟩ := open_int Try.underlying5 (hval 3 5 v3 rfl rfl) h3
  clear hA0 hval0
  refine (walk a0_0 len0_0 cap0_0 z0_0 a0_1 a0_2 a1 a2 a3 W w0_0 w0_1 w0_2 w1 w2 w3).mono fun e W' ⟨he, bel⟩ => ?_
  subst he
  exact ⟨_, rfl, _, _, _, [], _, [], hW', trodAll_mk1 (shut_bool Try.underlying4 _), (trodAll_cons_mk (Below.trod laidOut (by kernel_rfl) (of_decide_eq_true (by kernel_rfl)) k0 bel lt0) (trodAll_cons_mk (shut_int Try.underlying5 w1) (trodAll_cons_mk (shut_int Try.underlying5 w2) (trodAll_cons_mk (shut_int Try.underlying5 w3) trodAll_mk0)))), rfl, bel.frame _, fun h => by cases h⟩

theorem over : Rows.ledgerPartsRow.holds Try.pinned (OpenSpec.ofChange Rows.ledgerPartsSpec) :=
  OpenClaim.holds_of_wide 4 Try.f4 rfl rfl rfl rfl rfl rfl rfl ⟨rfl, rfl, rfl, rfl, rfl⟩ rfl rfl rfl rfl rfl (by kernel_rfl) Try.func4 (by kernel_rfl)
    (of_decide_eq_true (by kernel_rfl)) (by unfold Func.isWrapper; first | (rw [if_pos (by decide +kernel)]; kernel_rfl) | (rw [if_neg (by decide +kernel)]; exact ⟨rfl, rfl⟩))
    (fun os started H enc _ => lifted os started H enc)

theorem proved : Rows.LedgerPartsSaid := over
end Go.Proofs.Ytpkpjfmljgchbaa.ledgerParts

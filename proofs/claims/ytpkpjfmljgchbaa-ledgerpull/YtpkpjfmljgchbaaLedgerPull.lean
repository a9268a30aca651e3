/-
  what would be justified is what is, when the epoch has ended (LedgerPull is true of every input).
-/
import Derived.Test.YtpkpjfmljgchbaaRows

import Derived.WalkKit

import Derived.Below

import Derived.ProofKit

import Derived.OpenShut

import Derived.ShutString

import Derived.ChangeOld

import Derived.Test.YtpkpjfmljgchbaaShapes

import Derived.Test.YtpkpjfmljgchbaaLAwake

import Derived.Test.YtpkpjfmljgchbaaLSame

import Derived.Test.YtpkpjfmljgchbaaLHelp2

import Derived.Test.YtpkpjfmljgchbaaEpMath

import Derived.Test.YtpkpjfmljgchbaaHand

namespace Go.Proofs.Ytpkpjfmljgchbaa.ledgerPull

open Go.ChangeShapes Go.WideShapes Go.ChangeAt Go.RowKit

set_option linter.unusedVariables false

theorem own : ownKnob Try.prog.godebug = none := by kernel_rfl
theorem laidOut : laidOutB Try.prog = true := by kernel_rfl
theorem cells3 : Try.prog.cellsOf 3 = 1 := by kernel_rfl
theorem cells4 : Try.prog.cellsOf 4 = 1 := by kernel_rfl
theorem cells5 : Try.prog.cellsOf 5 = 1 := by kernel_rfl
theorem cells22 : Try.prog.cellsOf 22 = 1 := by kernel_rfl
theorem cells24 : Try.prog.cellsOf 24 = 3 := by kernel_rfl
theorem cells32 : Try.prog.cellsOf 32 = 1 := by kernel_rfl
theorem cells37 : Try.prog.cellsOf 37 = 1 := by kernel_rfl
theorem list3 {α : Type _} {l : List α} (h : l.length = 3) : ∃ x0 x1 x2, l = [x0, x1, x2] := by
  match l, h with
  | [x0, x1, x2], _ => exact ⟨x0, x1, x2, rfl⟩
theorem has4 : Sh.Has Try.prog .bool (.inl 4) := Try.underlying4
theorem has37 : Sh.Has Try.prog (.slice .bool) (.inl 37) := Sh.has_slice Try.underlying37 (by kernel_rfl) (by decide) has4
theorem epo_mul (q s : Int) (hq : 0 ≤ q ∧ q ≤ 65535) (hs : 1 ≤ s ∧ s ≤ 64) : epo (wrap64 (q * s)) s = q := by
  have h1 : 0 ≤ q * s := Int.mul_nonneg hq.1 (by omega)
  have h2 : q * s ≤ 65535 * 64 := Int.mul_le_mul hq.2 hs.2 (by omega) (by omega)
  have h3 : wrap64 (q * s) = q * s := by unfold wrap64; omega
  rw [h3]
  unfold epo lo0 lo1
  rw [if_neg (by omega), if_neg (by omega)]
  exact Int.mul_ediv_cancel _ (by omega)
theorem epo_small (t s : Int) (ht : 0 ≤ t) (hs : 1 ≤ s) : epo t s = t / s := by unfold epo lo0 lo1; rw [if_neg (by omega), if_neg (by omega)]
theorem adv_from (bs : List Int) (s : Int) (f : Int → Int) (S : LS) (t : Int) (he : 0 ≤ S.e ∧ S.e ≤ 65535) (hs : 1 ≤ s ∧ s ≤ 64) (ht : 0 ≤ t) (hd : t / s - S.e < 4096) : advS bs s f S t = advK bs s f S S.e (t / s - S.e).toNat := by
  unfold advS
  have h1 := epo_mul S.e s he hs
  have h2 := epo_small t s ht hs.1
  unfold ends
  rw [h1, h2, if_pos hd]
theorem adv_two (bs : List Int) (s : Int) (f : Int → Int) (S : LS) (a b : Int) (h0 : S.e = 0) (hs : 1 ≤ s ∧ s ≤ 64) (ha : 0 ≤ a ∧ a ≤ 255) (hb : 0 ≤ b ∧ b ≤ 255) : advS bs s f (advS bs s f S a) (a + b) = advS bs s f S (a + b) := by
  have q1 : 0 ≤ a / s ∧ a / s ≤ 255 := ⟨Int.ediv_nonneg ha.1 (by omega), Int.le_trans (Int.ediv_le_self _ ha.1) ha.2⟩
  have q2 : 0 ≤ (a + b) / s ∧ (a + b) / s ≤ 510 := ⟨Int.ediv_nonneg (by omega) (by omega), Int.le_trans (Int.ediv_le_self _ (by omega)) (by omega)⟩
  have q3 : a / s ≤ (a + b) / s := Int.ediv_le_ediv (by omega) (by omega)
  have e1 := adv_from bs s f S a (by omega) hs ha.1 (by omega)
  have e2 := adv_from bs s f S (a + b) (by omega) hs (by omega) (by omega)
  rw [h0, Int.sub_zero] at e1 e2
  have he : (advS bs s f S a).e = a / s := by
    rw [e1, advK_e]
    split
    · omega
    · omega
  have e3 := adv_from bs s f (advS bs s f S a) (a + b) (by omega) hs (by omega) (by omega)
  rw [e3, he, e1, e2]
  unfold advK
  rw [← List.foldl_append]
  congr 1
  have h := run_append 0 (a / s).toNat ((a + b) / s - a / s).toNat
  rw [show (0 : Int) + ((a / s).toNat : Int) = a / s by omega] at h
  rw [h]
  congr 1
  omega
theorem adv_zero (bs : List Int) (s : Int) (f : Int → Int) (S : LS) (h0 : S.e = 0) (hs : 1 ≤ s ∧ s ≤ 64) : advS bs s f S 0 = S := by
  rw [adv_from bs s f S 0 (by omega) hs (by omega) (by rw [h0]; simp), h0]
  simp [advK, run]
def fil (vs : List Bool) (n k : Nat) : List Bool := (List.range k).map (fun i => vs.getD i false) ++ List.replicate (n - k) false
theorem fil_len (vs : List Bool) (n k : Nat) (h : k ≤ n) : (fil vs n k).length = n := by simp [fil]; omega
theorem fil_set (vs : List Bool) (n k : Nat) (h : k < n) : (fil vs n k).set k (vs.getD k false) = fil vs n (k + 1) := by
  unfold fil
  rw [List.set_append_right _ _ (by simp), List.range_succ, List.map_append, List.append_assoc, show n - k = (n - (k + 1)) + 1 from by omega, List.replicate_succ]
  simp
theorem RowsIn.bools {w : World} {ao : Option Addr} {n c : Nat} {vs : List Bool} (h : RowsIn (fun x v => Sh.bool.In w x v) 1 w ao n c vs) : RowB w ao n c vs :=
  ⟨h.len, h.nil, fun i hi => by
    obtain ⟨b, off, cs, e, hlt, hl, hc, hr⟩ := h.row i (Nat.lt_of_lt_of_eq hi h.len.symm)
    refine ⟨b, off, e, hlt, ?_⟩
    have h0 := hc 0 (by omega)
    have hi' : i < vs.length := Nat.lt_of_lt_of_eq hi h.len.symm
    rw [Nat.mul_one, Nat.add_zero, show cs = _ from hr] at h0
    rw [h0, List.getD_eq_getElem?_getD, List.getElem?_eq_getElem hi']
    rfl, h.cap⟩
theorem open_bools {w : World} {a : Option Addr} {n c : Nat} {vs : List Bool} (h : (Sh.slice .bool).In w [.slice a n c] vs) : RowB w a n c vs := by
  obtain ⟨ao, m, d, e, hr⟩ := h
  cases e
  exact RowsIn.bools hr
theorem adv_one (bs : List Int) (s : Int) (f : Int → Int) (S : LS) (hs : 1 ≤ s ∧ s ≤ 64) (he : 0 ≤ S.e ∧ S.e ≤ 100) : advS bs s f S ((S.e + 1) * s) = stepS bs s f S S.e := by
  have h1 : 0 ≤ (S.e + 1) * s := Int.mul_nonneg (by omega) (by omega)
  have h2 : (S.e + 1) * s / s = S.e + 1 := Int.mul_ediv_cancel _ (by omega)
  rw [adv_from bs s f S _ (by omega) hs h1 (by omega), h2, show (S.e + 1 - S.e).toNat = 1 by omega, advK_succ]
  simp [advK, run]

set_option maxRecDepth 100000 in
set_option maxHeartbeats 16000000 in
set_option maxRecDepth 100000 in
theorem walk (a0_0 : Option Addr) (len0_0 cap0_0 : Nat) (z0_0 : List Int) (a0_1 : Int) (a0_2 : Int) (a1 : Int) (a2 : Option Addr) (len2 cap2 : Nat) (e2 : Sh.Val (.slice .bool)) (a3 : Option Addr) (len3 cap3 : Nat) (e3 : Sh.Val (.slice .bool)) (a4 : Int) (w : World) (w0_0 : IsRow .u64 w a0_0 len0_0 cap0_0 z0_0) (w0_1 : (Lit.int .i64 a0_1).wf = true) (w0_2 : (Lit.int .i64 a0_2).wf = true) (w1 : (Lit.int .u8 a1).wf = true) (w2 : Sh.In (.slice .bool) w [.slice a2 len2 cap2] e2) (w3 : Sh.In (.slice .bool) w [.slice a3 len3 cap3] e3) (w4 : (Lit.int .u8 a4).wf = true) :
    Calls Try.prog 8 #[.agg #[.slice a0_0 len0_0 cap0_0, .int .i64 a0_1, .int .i64 a0_2], .int .u8 a1, .slice a2 len2 cap2, .slice a3 len3 cap3, .int .u8 a4] w fun e w' => e = .returned (.bool true) ∧ Below w.heap.size w w' := by
  have hcb := wf_u8 w1
  have heb := wf_u8 w4
  have HV := hide ((open_bools w2).alloc (cfg a0_0 len0_0 cap0_0 a0_1 a0_2))
  have HU := hide ((open_bools w3).alloc (cfg a0_0 len0_0 cap0_0 a0_1 a0_2))
  have hvc := (open_bools w2).cap
  have huc := (open_bools w3).cap
  unfold maxLen at hvc huc
  clear w1 w2 w3 w4
  obtain ⟨vs, hvs⟩ : ∃ x : List Bool, x = e2 := ⟨_, rfl⟩
  obtain ⟨us, hus⟩ : ∃ x : List Bool, x = e3 := ⟨_, rfl⟩
  rw [← hvs] at HV
  rw [← hus] at HU
  clear hvs hus
  have hB0 := w0_0.row
  have hu0 := w0_0.u64
  have hs0 := wf_i64 w0_1
  have hb0 := wf_i64 w0_2
  clear w0_0 w0_1 w0_2
  generalize z0_0.take len0_0 = bs0 at *
  have HB0 := hide (hB0.alloc (cfg a0_0 len0_0 cap0_0 a0_1 a0_2))
  have HU0 := hide hu0
  have HC0 := hide (OAt.new w (cfg a0_0 len0_0 cap0_0 a0_1 a0_2))
  have HN0 := hide ((Below.refl _ w).alloc (Nat.le_refl _) (cfg a0_0 len0_0 cap0_0 a0_1 a0_2))
  clear hB0 hu0
  have hSb := mkS_b a0_1
  have hnb := mkBs_len bs0
  have hub := mkBs_b bs0
  obtain ⟨S, hS⟩ : ∃ x, Hid (mkS a0_1 = x) := ⟨_, rfl⟩
  obtain ⟨B, hB⟩ : ∃ x, Hid (mkB a0_2 = x) := ⟨_, rfl⟩
  obtain ⟨bs, hbs⟩ : ∃ x, Hid (mkBs bs0 = x) := ⟨_, rfl⟩
  rw [hS.out] at hSb
  rw [hbs.out] at hnb hub
  obtain ⟨n, hn⟩ : ∃ x, bs.length = x := ⟨_, rfl⟩
  rw [hn] at hnb
  have hn0 : 0 < n ∧ n ≤ 4096 := by omega
  have hSi : I64s S := by unfold I64s; omega
  have hu : Hid (∀ z ∈ bs, 0 ≤ z ∧ z ≤ 18446744073709551615) := hide (fun z hz => by have := hub z hz; omega)
  clear hub
  go_enter Try.func8, Try.ntmps8
  go_wp2_with fail
  refine (awake_any _).mono ?_
  rintro e w1 ⟨rfl, hbel⟩
  have HB1 := hide (HB0.out.below hbel)
  have HC1 := hide (HC0.out.below hbel)
  have HN1 := hide (HN0.out.trans (hbel.mono (by simp)))
  replace HV := hide (HV.out.below hbel)
  replace HU := hide (HU.out.below hbel)
  clear HB0 HC0 HN0 hbel
  have p0 := HC1.out.cell 0
  have p1 := HC1.out.cell 1
  have p2 := HC1.out.cell 2
  simp only [List.getElem?_toArray, List.getElem?_cons_zero, List.getElem?_cons_succ] at p0 p1 p2
  go_wp2_with fail
  refine (make_any bs0 _ _ _ _ _ _ HB1.out HU0.out hs0 hb0).mono ?_
  rintro e w2 ⟨ao, d, rfl, hR, hbel⟩
  rw [hS.out, hB.out, hbs.out, hn]
  rw [hbs.out, hn] at hR
  have HR := hide (hR.alloc (cfg ao n d S B))
  have HRF := hide (hR.far hn0.1)
  have HX := hide (OAt.new w2 (cfg ao n d S B))
  have HN := hide ((HN1.out.trans (hbel.mono HN1.out.size)).alloc (by have := HN1.out.size; have := hbel.size; omega) (cfg ao n d S B))
  replace HV := hide ((HV.out.below hbel).alloc (cfg ao n d S B))
  replace HU := hide ((HU.out.below hbel).alloc (cfg ao n d S B))
  have hcg : Hid (w.heap.size < w2.heap.size) := Nat.lt_of_lt_of_le HC1.out.lt hbel.size
  clear HB1 HC1 HN1 hbel p0 p1 p2 hR
  go_upto_region 4 with fail
  generalize hW : w2.alloc (cfg ao n d S B) = W at HR HX HN HV HU
  have hWs : W.heap.size = w2.heap.size + 1 := by rw [← hW]; simp
  clear hW
  obtain ⟨hc, hhc⟩ : ∃ x, Hid (w2.heap.size = x) := ⟨_, rfl⟩
  rw [hhc.out] at HX HRF hWs hcg ⊢
  have hxs : Hid (∀ w', Below W.heap.size W w' → w'.cell? ⟨hc, 0, none⟩ = some (.slice ao n d) ∧ w'.cell? ⟨hc, 1, none⟩ = some (.int .i64 S) ∧ w'.cell? ⟨hc, 2, none⟩ = some (.int .i64 B)) := fun w' h => by
    have V := HX.out.below h
    exact ⟨V.cell 0, V.cell 1, V.cell 2⟩
  go_wp2_with fail
  refine (chain_any a1 hcb W).mono ?_
  rintro ek W1 ⟨cap, rfl, hch, hbel⟩
  have HCH := hide hch
  replace HX := hide (HX.out.below hbel)
  replace HR := hide (HR.out.below hbel)
  replace HV := hide (HV.out.below hbel)
  replace HU := hide (HU.out.below hbel)
  replace HN := hide (HN.out.trans (hbel.mono HN.out.size))
  have hW1 := hbel.size
  have q0 := HX.out.cell 0
  have q1 := HX.out.cell 1
  have q2 := HX.out.cell 2
  simp only [List.getElem?_toArray, List.getElem?_cons_zero, List.getElem?_cons_succ] at q0 q1 q2
  clear hch hbel hxs
  go_wp2_with fail
  refine (open_led ao n d S B 7 W1 hn0.2).mono ?_
  rintro eo W2 ⟨g1, g2, rfl, o1, o2, l12, l1, hbel⟩
  have HT := hide (OAt.new W2 (lobj jz 0 none 0 0 none 0 0))
  obtain ⟨gs, hgs⟩ : ∃ x, Hid (W2.heap.size = x) := ⟨_, rfl⟩
  obtain ⟨W3, hrun, ho3, ha3⟩ := store_obj (P := Try.prog) (ty := 39) (n := 13) (cs := (lcells (JS.first 7) 0 (some ⟨g1, 0, none⟩) n n (some ⟨g2, 0, none⟩) n n).toList) infoLS rfl rfl (lcells_one _ _ _ _ _ _ _ _) HT.out.at_
  have hrun' := hide hrun
  have hb23 : Below W2.heap.size W2 W3 := (below_alloc W2 (lobj jz 0 none 0 0 none 0 0)).trans (ha3.old W2.heap.size (by simp) (Nat.le_refl _))
  have L2 := o2.lt
  have HB1 := hide (hbel.trans (hb23.mono hbel.size))
  have O1 : Hid (OAt W3 g1 (bobj (List.replicate n false))) := o1.below hb23
  have O2 : Hid (OAt W3 g2 (bobj (List.replicate n false))) := o2.below hb23
  have HS3 : Hid (OAt W3 gs (lobj (JS.first 7) 0 (some ⟨g1, 0, none⟩) n n (some ⟨g2, 0, none⟩) n n)) := by rw [← hgs.out]; exact OAt.of ho3
  have hsz : Hid (w.heap.size < hc ∧ hc < W1.heap.size ∧ W1.heap.size ≤ g1 ∧ g1 < g2 ∧ g2 < gs) := hide ⟨hcg.out, by omega, l1, l12, by rw [← hgs.out]; exact L2⟩
  have HW1 := hide HN.out
  clear q0 q1 q2 hbel o1 o2 l12 l1 HT hrun ho3 ha3 hb23 L2 HN hcg
  go_upto_region 6 with (refine wpList_store_at 39 (.tmp 13) (.tmp 24) rfl rfl _ _ rfl rfl W3 hrun'.out ?_)
  rw [hgs.out]
  clear hrun' hgs
  obtain ⟨z0, z1, z2, z3, z4⟩ := hsz.out
  obtain ⟨E, hEd⟩ : ∃ x, a4 % 20 = x := ⟨_, rfl⟩
  have hEb : 0 ≤ E ∧ E < 20 := by omega
  have hEw : IntKind.u8.wrap E = E := by rw [IntKind.wrap_u8]; omega
  have hEi : IntKind.i64.wrap E = E := by rw [IntKind.wrap_i64]; omega
  have hl3 := HS3.out.lc
  have hf3 := HS3.out.soft
  have HA4 := hide ((Apart.refl gs W3).set 10 (.int .i64 E))
  have HS4 := hide (HS3.out.setE E)
  have HO1 := hide (O1.out.apart HA4.out (by omega))
  have HO2 := hide (O2.out.apart HA4.out (by omega))
  have HB4 := hide (HB1.out.trans (HA4.out.old _ HB1.out.size (by omega)))
  clear O1 O2 HS3 HB1 HA4
  go_upto_region 7 with fail
  generalize W3.setCell ⟨gs, 10, none⟩ (.int .i64 E) = W4 at HS4 HO1 HO2 HB4
  clear hl3 hf3 hEw hEi
  have hcx : Hid (∀ wr, Below W1.heap.size W1 wr → wr.cell? ⟨hc, 0, none⟩ = some (.slice ao n d) ∧ wr.cell? ⟨hc, 1, none⟩ = some (.int .i64 S) ∧ wr.cell? ⟨hc, 2, none⟩ = some (.int .i64 B)) := fun wr h => by
    have V := HX.out.below h
    exact ⟨V.cell 0, V.cell 1, V.cell 2⟩
  have hl := HS4.out.lc
  have hx := hcx.out _ HB4.out
  clear hEd
  go_wp2
  go_loopw [48] (fun i wr => ∃ k : Nat, k ≤ n ∧ i = .int .i64 k ∧ Hid (OAt wr g1 (bobj (fil vs n k)) ∧ OAt wr g2 (bobj (fil us n k)) ∧ OAt wr gs (lobj (JS.first 7) E (some ⟨g1, 0, none⟩) n n (some ⟨g2, 0, none⟩) n n) ∧ Below W1.heap.size W1 wr)) (fun i _ => n - (intOf i).toNat)
  case atStart =>
    have e1 : fil vs n 0 = List.replicate n false := by simp [fil]
    have e2 : fil us n 0 = List.replicate n false := by simp [fil]
    exact ⟨0, Nat.zero_le _, rfl, hide (by rw [e1, e2]; exact ⟨HO1.out, HO2.out, HS4.out, HB4.out⟩)⟩
  case round =>
    clear hl hx HO1 HO2 HS4 HB4
    obtain ⟨k, hk, rfl, hI⟩ := hrel
    obtain ⟨ho1, ho2, hoS, hbr⟩ := hI.out
    have hl := hoS.lc
    have hx := hcx.out _ hbr
    by_cases hlt : k < n
    · obtain ⟨x, hxv⟩ : ∃ x, Hid (vs.getD k false = x) := ⟨_, rfl⟩
      obtain ⟨y, hyv⟩ : ∃ x, Hid (us.getD k false = x) := ⟨_, rfl⟩
      have hs1 := hide (fil_set vs n k hlt)
      have hs2 := hide (fil_set us n k hlt)
      rw [hxv.out] at hs1
      rw [hyv.out] at hs2
      have hvr := HV.out.below hbr
      have hur := HU.out.below hbr
      have hq1 := ho1.cell k
      rw [List.getElem?_toArray, getB _ (fil_len vs n k hk) k hlt] at hq1
      have hq2 := ho2.cell k
      rw [List.getElem?_toArray, getB _ (fil_len us n k hk) k hlt] at hq2
      have hf1 := ho1.soft k
      have hf2 := ho2.soft k
      have X1 : OAt (wr.drew.setCell ⟨g1, k, none⟩ (.bool x)) g1 (bobj (fil vs n (k + 1))) := by
        have h := OAt.set ho1.drew k (.bool x)
        rw [← hs1.out]
        unfold bobj
        rw [List.map_set]
        simpa using h
      have A1 := (Apart.refl g1 wr.drew).set k (.bool x)
      have Y1 := OAt.apart ho2.drew A1 (by omega)
      have Z1 := OAt.apart hoS.drew A1 (by omega)
      have hq2' : (wr.drew.setCell ⟨g1, k, none⟩ (.bool x)).cell? ⟨g2, k, none⟩ = some (.bool ((fil us n k).getD k false)) := by
        have h := Y1.cell k
        rw [List.getElem?_toArray, getB _ (fil_len us n k hk) k hlt] at h
        exact h
      have hf2' := Y1.soft k
      have X2 : OAt ((wr.drew.setCell ⟨g1, k, none⟩ (.bool x)).setCell ⟨g2, k, none⟩ (.bool y)) g2 (bobj (fil us n (k + 1))) := by
        have h := OAt.set Y1 k (.bool y)
        rw [← hs2.out]
        unfold bobj
        rw [List.map_set]
        simpa using h
      have A2 := (Apart.refl g2 (wr.drew.setCell ⟨g1, k, none⟩ (.bool x))).set k (.bool y)
      have Y2 := X1.apart A2 (by omega)
      have Z2 := Z1.apart A2 (by omega)
      have B1 := (hbr.drew).trans (A1.old _ hbr.size (by omega))
      have B2 := B1.trans (A2.old _ B1.size (by omega))
      have HF := hide (And.intro Y2 (And.intro X2 (And.intro Z2 B2)))
      have HM := hide (And.intro B1 Z1)
      have HD := hide (And.intro hbr.drew hoS.drew)
      clear hI ho1 ho2 hoS hbr X1 X2 Y1 Y2 Z1 Z2 A1 A2 B1 B2
      go_wp2
      by_cases hv : k < len2
      · obtain ⟨bv, ov, rfl, _, _⟩ := hvr.cell k hv
        by_cases hu0 : k < len3
        · obtain ⟨bu, ou, rfl, _, _⟩ := hur.cell k hu0
          have hcs : Hid (∀ w', (Below W1.heap.size W1 w' ∧ OAt w' gs (lobj (JS.first 7) E (some ⟨g1, 0, none⟩) n n (some ⟨g2, 0, none⟩) n n)) → w'.cell? ⟨gs, 11, none⟩ = some (.slice (some ⟨g1, 0, none⟩) n n) ∧ w'.cell? ⟨gs, 12, none⟩ = some (.slice (some ⟨g2, 0, none⟩) n n) ∧ w'.cell? ⟨bv, ov + k, none⟩ = some (.bool x) ∧ w'.cell? ⟨bu, ou + k, none⟩ = some (.bool y)) := fun w' h => by
            have L := h.2.lc
            obtain ⟨b', o', e', _, hcv⟩ := (HV.out.below h.1).cell k hv
            cases e'
            rw [hxv.out] at hcv
            obtain ⟨b'', o'', e'', _, hcu⟩ := (HU.out.below h.1).cell k hu0
            cases e''
            rw [hyv.out] at hcu
            exact ⟨L.2.1, L.2.2, hcv, hcu⟩
          refine wp_region_noPanic ?_
          refine wp_region_held_drew (S := fun w' => Below W1.heap.size W1 w' ∧ OAt w' gs (lobj (JS.first 7) E (some ⟨g1, 0, none⟩) n n (some ⟨g2, 0, none⟩) n n)) (by kernel_rfl) HD.out (fun hHeld => ?_)
          refine take_set (i := 0) (v := .pointer (some ⟨gs, 11, none⟩)) rfl rfl (by kernel_rfl) (by kernel_rfl) (by kernel_rfl) (fun _ _ _ h => h) (Or.inl ⟨by kernel_rfl, fun w' hSw => ?_⟩) hHeld ?_
          · go_simp
          simp only [List.set_cons_succ, List.set_cons_zero]
          refine take_set (i := 1) (v := .slice (some ⟨g1, 0, none⟩) n n) rfl rfl (by kernel_rfl) (by kernel_rfl) (by kernel_rfl) (fun _ _ _ h => h) (Or.inl ⟨by kernel_rfl, fun w' hSw => ?_⟩) hHeld ?_
          · have hl2 := hcs.out w' hSw; go_simp
          simp only [List.set_cons_succ, List.set_cons_zero]
          refine take_set (i := 2) (v := .int .i64 (k : Int)) rfl rfl (by kernel_rfl) (by kernel_rfl) (by kernel_rfl) (fun _ _ _ h => h) (Or.inl ⟨by kernel_rfl, fun w' hSw => ?_⟩) hHeld ?_
          · go_simp
          simp only [List.set_cons_succ, List.set_cons_zero]
          refine take_set (i := 3) (v := .pointer (some ⟨gs, 12, none⟩)) rfl rfl (by kernel_rfl) (by kernel_rfl) (by kernel_rfl) (fun _ _ _ h => h) (Or.inl ⟨by kernel_rfl, fun w' hSw => ?_⟩) hHeld ?_
          · go_simp
          simp only [List.set_cons_succ, List.set_cons_zero]
          refine take_set (i := 4) (v := .slice (some ⟨g2, 0, none⟩) n n) rfl rfl (by kernel_rfl) (by kernel_rfl) (by kernel_rfl) (fun _ _ _ h => h) (Or.inl ⟨by kernel_rfl, fun w' hSw => ?_⟩) hHeld ?_
          · have hl2 := hcs.out w' hSw; go_simp
          simp only [List.set_cons_succ, List.set_cons_zero]
          refine take_set (i := 5) (v := .int .i64 (k : Int)) rfl rfl (by kernel_rfl) (by kernel_rfl) (by kernel_rfl) (fun _ _ _ h => h) (Or.inl ⟨by kernel_rfl, fun w' hSw => ?_⟩) hHeld ?_
          · go_simp
          simp only [List.set_cons_succ, List.set_cons_zero]
          refine take_set (i := 6) (v := .int .i64 (k : Int)) rfl rfl (by kernel_rfl) (by kernel_rfl) (by kernel_rfl) (fun _ _ _ h => h) (Or.inl ⟨by kernel_rfl, fun w' hSw => ?_⟩) hHeld ?_
          · go_simp
          simp only [List.set_cons_succ, List.set_cons_zero]
          refine take_set (i := 7) (v := .slice (some ⟨bv, ov, none⟩) len2 cap2) rfl rfl (by kernel_rfl) (by kernel_rfl) (by kernel_rfl) (fun _ _ _ h => h) (Or.inl ⟨by kernel_rfl, fun w' hSw => ?_⟩) hHeld ?_
          · go_simp
          simp only [List.set_cons_succ, List.set_cons_zero]
          refine take_set (i := 8) (v := .int .i64 (len2 : Int)) rfl rfl (by kernel_rfl) (by kernel_rfl) (by kernel_rfl) (fun _ _ _ h => h) (Or.inl ⟨by kernel_rfl, fun w' hSw => ?_⟩) hHeld ?_
          · go_simp
          simp only [List.set_cons_succ, List.set_cons_zero]
          refine take_set (i := 9) (v := .bool true) rfl rfl (by kernel_rfl) (by kernel_rfl) (by kernel_rfl) (fun _ _ _ h => h) (Or.inl ⟨by kernel_rfl, fun w' hSw => ?_⟩) hHeld ?_
          · go_simp
          simp only [List.set_cons_succ, List.set_cons_zero]
          refine take_set (i := 10) (v := .bool true) rfl rfl (by kernel_rfl) (by kernel_rfl) (by kernel_rfl) (fun _ _ _ h => h) (Or.inl ⟨by kernel_rfl, fun w' hSw => ?_⟩) hHeld ?_
          · go_simp
          simp only [List.set_cons_succ, List.set_cons_zero]
          refine take_set (i := 11) (v := .slice (some ⟨bv, ov, none⟩) len2 cap2) rfl rfl (by kernel_rfl) (by kernel_rfl) (by kernel_rfl) (fun _ _ _ h => h) (Or.inl ⟨by kernel_rfl, fun w' hSw => ?_⟩) hHeld ?_
          · go_simp
          simp only [List.set_cons_succ, List.set_cons_zero]
          refine take_set (i := 12) (v := .int .i64 (k : Int)) rfl rfl (by kernel_rfl) (by kernel_rfl) (by kernel_rfl) (fun _ _ _ h => h) (Or.inl ⟨by kernel_rfl, fun w' hSw => ?_⟩) hHeld ?_
          · go_simp
          simp only [List.set_cons_succ, List.set_cons_zero]
          refine take_set (i := 13) (v := .pointer (some ⟨bv, ov + k, none⟩)) rfl rfl (by kernel_rfl) (by kernel_rfl) (by kernel_rfl) (fun _ _ _ h => h) (Or.inl ⟨by kernel_rfl, fun w' hSw => ?_⟩) hHeld ?_
          · go_simp
          simp only [List.set_cons_succ, List.set_cons_zero]
          refine take_set (i := 14) (v := .bool x) rfl rfl (by kernel_rfl) (by kernel_rfl) (by kernel_rfl) (fun _ _ _ h => h) (Or.inl ⟨by kernel_rfl, fun w' hSw => ?_⟩) hHeld ?_
          · have hl2 := hcs.out w' hSw; go_simp
          simp only [List.set_cons_succ, List.set_cons_zero]
          refine take_set (i := 15) (v := .bool x) rfl rfl (by kernel_rfl) (by kernel_rfl) (by kernel_rfl) (fun _ _ _ h => h) (Or.inl ⟨by kernel_rfl, fun w' hSw => ?_⟩) hHeld ?_
          · go_simp
          simp only [List.set_cons_succ, List.set_cons_zero]
          refine take_set (i := 16) (v := .int .i64 (k : Int)) rfl rfl (by kernel_rfl) (by kernel_rfl) (by kernel_rfl) (fun _ _ _ h => h) (Or.inl ⟨by kernel_rfl, fun w' hSw => ?_⟩) hHeld ?_
          · go_simp
          simp only [List.set_cons_succ, List.set_cons_zero]
          refine take_set (i := 17) (v := .slice (some ⟨bu, ou, none⟩) len3 cap3) rfl rfl (by kernel_rfl) (by kernel_rfl) (by kernel_rfl) (fun _ _ _ h => h) (Or.inl ⟨by kernel_rfl, fun w' hSw => ?_⟩) hHeld ?_
          · go_simp
          simp only [List.set_cons_succ, List.set_cons_zero]
          refine take_set (i := 18) (v := .int .i64 (len3 : Int)) rfl rfl (by kernel_rfl) (by kernel_rfl) (by kernel_rfl) (fun _ _ _ h => h) (Or.inl ⟨by kernel_rfl, fun w' hSw => ?_⟩) hHeld ?_
          · go_simp
          simp only [List.set_cons_succ, List.set_cons_zero]
          refine take_set (i := 19) (v := .bool true) rfl rfl (by kernel_rfl) (by kernel_rfl) (by kernel_rfl) (fun _ _ _ h => h) (Or.inl ⟨by kernel_rfl, fun w' hSw => ?_⟩) hHeld ?_
          · go_simp
          simp only [List.set_cons_succ, List.set_cons_zero]
          refine take_set (i := 20) (v := .bool true) rfl rfl (by kernel_rfl) (by kernel_rfl) (by kernel_rfl) (fun _ _ _ h => h) (Or.inl ⟨by kernel_rfl, fun w' hSw => ?_⟩) hHeld ?_
          · go_simp
          simp only [List.set_cons_succ, List.set_cons_zero]
          refine take_set (i := 21) (v := .slice (some ⟨bu, ou, none⟩) len3 cap3) rfl rfl (by kernel_rfl) (by kernel_rfl) (by kernel_rfl) (fun _ _ _ h => h) (Or.inl ⟨by kernel_rfl, fun w' hSw => ?_⟩) hHeld ?_
          · go_simp
          simp only [List.set_cons_succ, List.set_cons_zero]
          refine take_set (i := 22) (v := .int .i64 (k : Int)) rfl rfl (by kernel_rfl) (by kernel_rfl) (by kernel_rfl) (fun _ _ _ h => h) (Or.inl ⟨by kernel_rfl, fun w' hSw => ?_⟩) hHeld ?_
          · go_simp
          simp only [List.set_cons_succ, List.set_cons_zero]
          refine take_set (i := 23) (v := .pointer (some ⟨bu, ou + k, none⟩)) rfl rfl (by kernel_rfl) (by kernel_rfl) (by kernel_rfl) (fun _ _ _ h => h) (Or.inl ⟨by kernel_rfl, fun w' hSw => ?_⟩) hHeld ?_
          · go_simp
          simp only [List.set_cons_succ, List.set_cons_zero]
          refine take_set (i := 24) (v := .bool y) rfl rfl (by kernel_rfl) (by kernel_rfl) (by kernel_rfl) (fun _ _ _ h => h) (Or.inl ⟨by kernel_rfl, fun w' hSw => ?_⟩) hHeld ?_
          · have hl2 := hcs.out w' hSw; go_simp
          simp only [List.set_cons_succ, List.set_cons_zero]
          refine take_set (i := 25) (v := .bool y) rfl rfl (by kernel_rfl) (by kernel_rfl) (by kernel_rfl) (fun _ _ _ h => h) (Or.inl ⟨by kernel_rfl, fun w' hSw => ?_⟩) hHeld ?_
          · go_simp
          simp only [List.set_cons_succ, List.set_cons_zero]
          refine take_set (i := 26) (v := .pointer (some ⟨g1, k, none⟩)) rfl rfl (by kernel_rfl) (by kernel_rfl) (by kernel_rfl) (fun _ _ _ h => h) (Or.inl ⟨by kernel_rfl, fun w' hSw => ?_⟩) hHeld ?_
          · go_simp
          simp only [List.set_cons_succ, List.set_cons_zero]
          refine wpAnyH_ready (rs := [27]) (by kernel_rfl) (by simp) ?_
          refine AllReadyH.cons (o := _) rfl (fun K hK => ?_) AllReadyH.nil
          go_simp
          refine hK.out _ _ (HM.out) (fun hHeld => ?_)
          clear hK K
          refine take_set (i := 28) (v := .pointer (some ⟨g2, k, none⟩)) rfl rfl (by kernel_rfl) (by kernel_rfl) (by kernel_rfl) (fun _ _ _ h => h) (Or.inl ⟨by kernel_rfl, fun w' hSw => ?_⟩) hHeld ?_
          · go_simp
          simp only [List.set_cons_succ, List.set_cons_zero]
          refine wpAnyH_ready (rs := [29]) (by kernel_rfl) (by simp) ?_
          refine AllReadyH.cons (o := _) rfl (fun K hK => ?_) AllReadyH.nil
          go_simp
          refine hK.out _ _ (⟨HF.out.2.2.2, HF.out.2.2.1⟩) (fun hHeld => ?_)
          clear hK K
          refine wpAnyH_done (by kernel_rfl) ?_ _
          refine NoPanic.normal ?_
          go_wp2
          go_roundw
          case rel => exact ⟨k + 1, by omega, by go_num, HF⟩
          case measure => simp [intOf]; omega
        · have hy0 : y = false := by rw [← hyv.out, List.getD_eq_getElem?_getD, List.getElem?_eq_none (by rw [hur.len]; omega)]; rfl
          subst hy0
          have hcs : Hid (∀ w', (Below W1.heap.size W1 w' ∧ OAt w' gs (lobj (JS.first 7) E (some ⟨g1, 0, none⟩) n n (some ⟨g2, 0, none⟩) n n)) → w'.cell? ⟨gs, 11, none⟩ = some (.slice (some ⟨g1, 0, none⟩) n n) ∧ w'.cell? ⟨gs, 12, none⟩ = some (.slice (some ⟨g2, 0, none⟩) n n) ∧ w'.cell? ⟨bv, ov + k, none⟩ = some (.bool x)) := fun w' h => by
            have L := h.2.lc
            obtain ⟨b', o', e', _, hcv⟩ := (HV.out.below h.1).cell k hv
            cases e'
            rw [hxv.out] at hcv
            exact ⟨L.2.1, L.2.2, hcv⟩
          refine wp_region_noPanic ?_
          refine wp_region_held_drew (S := fun w' => Below W1.heap.size W1 w' ∧ OAt w' gs (lobj (JS.first 7) E (some ⟨g1, 0, none⟩) n n (some ⟨g2, 0, none⟩) n n)) (by kernel_rfl) HD.out (fun hHeld => ?_)
          refine take_set (i := 0) (v := .pointer (some ⟨gs, 11, none⟩)) rfl rfl (by kernel_rfl) (by kernel_rfl) (by kernel_rfl) (fun _ _ _ h => h) (Or.inl ⟨by kernel_rfl, fun w' hSw => ?_⟩) hHeld ?_
          · go_simp
          simp only [List.set_cons_succ, List.set_cons_zero]
          refine take_set (i := 1) (v := .slice (some ⟨g1, 0, none⟩) n n) rfl rfl (by kernel_rfl) (by kernel_rfl) (by kernel_rfl) (fun _ _ _ h => h) (Or.inl ⟨by kernel_rfl, fun w' hSw => ?_⟩) hHeld ?_
          · have hl2 := hcs.out w' hSw; go_simp
          simp only [List.set_cons_succ, List.set_cons_zero]
          refine take_set (i := 2) (v := .int .i64 (k : Int)) rfl rfl (by kernel_rfl) (by kernel_rfl) (by kernel_rfl) (fun _ _ _ h => h) (Or.inl ⟨by kernel_rfl, fun w' hSw => ?_⟩) hHeld ?_
          · go_simp
          simp only [List.set_cons_succ, List.set_cons_zero]
          refine take_set (i := 3) (v := .pointer (some ⟨gs, 12, none⟩)) rfl rfl (by kernel_rfl) (by kernel_rfl) (by kernel_rfl) (fun _ _ _ h => h) (Or.inl ⟨by kernel_rfl, fun w' hSw => ?_⟩) hHeld ?_
          · go_simp
          simp only [List.set_cons_succ, List.set_cons_zero]
          refine take_set (i := 4) (v := .slice (some ⟨g2, 0, none⟩) n n) rfl rfl (by kernel_rfl) (by kernel_rfl) (by kernel_rfl) (fun _ _ _ h => h) (Or.inl ⟨by kernel_rfl, fun w' hSw => ?_⟩) hHeld ?_
          · have hl2 := hcs.out w' hSw; go_simp
          simp only [List.set_cons_succ, List.set_cons_zero]
          refine take_set (i := 5) (v := .int .i64 (k : Int)) rfl rfl (by kernel_rfl) (by kernel_rfl) (by kernel_rfl) (fun _ _ _ h => h) (Or.inl ⟨by kernel_rfl, fun w' hSw => ?_⟩) hHeld ?_
          · go_simp
          simp only [List.set_cons_succ, List.set_cons_zero]
          refine take_set (i := 6) (v := .int .i64 (k : Int)) rfl rfl (by kernel_rfl) (by kernel_rfl) (by kernel_rfl) (fun _ _ _ h => h) (Or.inl ⟨by kernel_rfl, fun w' hSw => ?_⟩) hHeld ?_
          · go_simp
          simp only [List.set_cons_succ, List.set_cons_zero]
          refine take_set (i := 7) (v := .slice (some ⟨bv, ov, none⟩) len2 cap2) rfl rfl (by kernel_rfl) (by kernel_rfl) (by kernel_rfl) (fun _ _ _ h => h) (Or.inl ⟨by kernel_rfl, fun w' hSw => ?_⟩) hHeld ?_
          · go_simp
          simp only [List.set_cons_succ, List.set_cons_zero]
          refine take_set (i := 8) (v := .int .i64 (len2 : Int)) rfl rfl (by kernel_rfl) (by kernel_rfl) (by kernel_rfl) (fun _ _ _ h => h) (Or.inl ⟨by kernel_rfl, fun w' hSw => ?_⟩) hHeld ?_
          · go_simp
          simp only [List.set_cons_succ, List.set_cons_zero]
          refine take_set (i := 9) (v := .bool true) rfl rfl (by kernel_rfl) (by kernel_rfl) (by kernel_rfl) (fun _ _ _ h => h) (Or.inl ⟨by kernel_rfl, fun w' hSw => ?_⟩) hHeld ?_
          · go_simp
          simp only [List.set_cons_succ, List.set_cons_zero]
          refine take_set (i := 10) (v := .bool true) rfl rfl (by kernel_rfl) (by kernel_rfl) (by kernel_rfl) (fun _ _ _ h => h) (Or.inl ⟨by kernel_rfl, fun w' hSw => ?_⟩) hHeld ?_
          · go_simp
          simp only [List.set_cons_succ, List.set_cons_zero]
          refine take_set (i := 11) (v := .slice (some ⟨bv, ov, none⟩) len2 cap2) rfl rfl (by kernel_rfl) (by kernel_rfl) (by kernel_rfl) (fun _ _ _ h => h) (Or.inl ⟨by kernel_rfl, fun w' hSw => ?_⟩) hHeld ?_
          · go_simp
          simp only [List.set_cons_succ, List.set_cons_zero]
          refine take_set (i := 12) (v := .int .i64 (k : Int)) rfl rfl (by kernel_rfl) (by kernel_rfl) (by kernel_rfl) (fun _ _ _ h => h) (Or.inl ⟨by kernel_rfl, fun w' hSw => ?_⟩) hHeld ?_
          · go_simp
          simp only [List.set_cons_succ, List.set_cons_zero]
          refine take_set (i := 13) (v := .pointer (some ⟨bv, ov + k, none⟩)) rfl rfl (by kernel_rfl) (by kernel_rfl) (by kernel_rfl) (fun _ _ _ h => h) (Or.inl ⟨by kernel_rfl, fun w' hSw => ?_⟩) hHeld ?_
          · go_simp
          simp only [List.set_cons_succ, List.set_cons_zero]
          refine take_set (i := 14) (v := .bool x) rfl rfl (by kernel_rfl) (by kernel_rfl) (by kernel_rfl) (fun _ _ _ h => h) (Or.inl ⟨by kernel_rfl, fun w' hSw => ?_⟩) hHeld ?_
          · have hl2 := hcs.out w' hSw; go_simp
          simp only [List.set_cons_succ, List.set_cons_zero]
          refine take_set (i := 15) (v := .bool x) rfl rfl (by kernel_rfl) (by kernel_rfl) (by kernel_rfl) (fun _ _ _ h => h) (Or.inl ⟨by kernel_rfl, fun w' hSw => ?_⟩) hHeld ?_
          · go_simp
          simp only [List.set_cons_succ, List.set_cons_zero]
          refine take_set (i := 16) (v := .int .i64 (k : Int)) rfl rfl (by kernel_rfl) (by kernel_rfl) (by kernel_rfl) (fun _ _ _ h => h) (Or.inl ⟨by kernel_rfl, fun w' hSw => ?_⟩) hHeld ?_
          · go_simp
          simp only [List.set_cons_succ, List.set_cons_zero]
          refine take_set (i := 17) (v := .slice a3 len3 cap3) rfl rfl (by kernel_rfl) (by kernel_rfl) (by kernel_rfl) (fun _ _ _ h => h) (Or.inl ⟨by kernel_rfl, fun w' hSw => ?_⟩) hHeld ?_
          · go_simp
          simp only [List.set_cons_succ, List.set_cons_zero]
          refine take_set (i := 18) (v := .int .i64 (len3 : Int)) rfl rfl (by kernel_rfl) (by kernel_rfl) (by kernel_rfl) (fun _ _ _ h => h) (Or.inl ⟨by kernel_rfl, fun w' hSw => ?_⟩) hHeld ?_
          · go_simp
          simp only [List.set_cons_succ, List.set_cons_zero]
          refine take_set (i := 19) (v := .bool false) rfl rfl (by kernel_rfl) (by kernel_rfl) (by kernel_rfl) (fun _ _ _ h => h) (Or.inl ⟨by kernel_rfl, fun w' hSw => ?_⟩) hHeld ?_
          · go_simp
          simp only [List.set_cons_succ, List.set_cons_zero]
          refine take_set (i := 20) (v := .bool false) rfl rfl (by kernel_rfl) (by kernel_rfl) (by kernel_rfl) (fun _ _ _ h => h) (Or.inl ⟨by kernel_rfl, fun w' hSw => ?_⟩) hHeld ?_
          · go_simp
          simp only [List.set_cons_succ, List.set_cons_zero]
          refine take_set (i := 21) (v := undef) rfl rfl (by kernel_rfl) (by kernel_rfl) (by kernel_rfl) (fun _ _ _ h => h) (Or.inr ⟨by kernel_rfl, rfl⟩) hHeld ?_
          simp only [List.set_cons_succ, List.set_cons_zero]
          refine take_set (i := 22) (v := undef) rfl rfl (by kernel_rfl) (by kernel_rfl) (by kernel_rfl) (fun _ _ _ h => h) (Or.inr ⟨by kernel_rfl, rfl⟩) hHeld ?_
          simp only [List.set_cons_succ, List.set_cons_zero]
          refine take_set (i := 23) (v := undef) rfl rfl (by kernel_rfl) (by kernel_rfl) (by kernel_rfl) (fun _ _ _ h => h) (Or.inr ⟨by kernel_rfl, rfl⟩) hHeld ?_
          simp only [List.set_cons_succ, List.set_cons_zero]
          refine take_set (i := 24) (v := undef) rfl rfl (by kernel_rfl) (by kernel_rfl) (by kernel_rfl) (fun _ _ _ h => h) (Or.inr ⟨by kernel_rfl, rfl⟩) hHeld ?_
          simp only [List.set_cons_succ, List.set_cons_zero]
          refine take_set (i := 25) (v := .bool false) rfl rfl (by kernel_rfl) (by kernel_rfl) (by kernel_rfl) (fun _ _ _ h => h) (Or.inl ⟨by kernel_rfl, fun w' hSw => ?_⟩) hHeld ?_
          · go_simp
          simp only [List.set_cons_succ, List.set_cons_zero]
          refine take_set (i := 26) (v := .pointer (some ⟨g1, k, none⟩)) rfl rfl (by kernel_rfl) (by kernel_rfl) (by kernel_rfl) (fun _ _ _ h => h) (Or.inl ⟨by kernel_rfl, fun w' hSw => ?_⟩) hHeld ?_
          · go_simp
          simp only [List.set_cons_succ, List.set_cons_zero]
          refine wpAnyH_ready (rs := [27]) (by kernel_rfl) (by simp) ?_
          refine AllReadyH.cons (o := _) rfl (fun K hK => ?_) AllReadyH.nil
          go_simp
          refine hK.out _ _ (HM.out) (fun hHeld => ?_)
          clear hK K
          refine take_set (i := 28) (v := .pointer (some ⟨g2, k, none⟩)) rfl rfl (by kernel_rfl) (by kernel_rfl) (by kernel_rfl) (fun _ _ _ h => h) (Or.inl ⟨by kernel_rfl, fun w' hSw => ?_⟩) hHeld ?_
          · go_simp
          simp only [List.set_cons_succ, List.set_cons_zero]
          refine wpAnyH_ready (rs := [29]) (by kernel_rfl) (by simp) ?_
          refine AllReadyH.cons (o := _) rfl (fun K hK => ?_) AllReadyH.nil
          go_simp
          refine hK.out _ _ (⟨HF.out.2.2.2, HF.out.2.2.1⟩) (fun hHeld => ?_)
          clear hK K
          refine wpAnyH_done (by kernel_rfl) ?_ _
          refine NoPanic.normal ?_
          go_wp2
          go_roundw
          case rel => exact ⟨k + 1, by omega, by go_num, HF⟩
          case measure => simp [intOf]; omega
      · have hx0 : x = false := by rw [← hxv.out, List.getD_eq_getElem?_getD, List.getElem?_eq_none (by rw [hvr.len]; omega)]; rfl
        subst hx0
        by_cases hu0 : k < len3
        · obtain ⟨bu, ou, rfl, _, _⟩ := hur.cell k hu0
          have hcs : Hid (∀ w', (Below W1.heap.size W1 w' ∧ OAt w' gs (lobj (JS.first 7) E (some ⟨g1, 0, none⟩) n n (some ⟨g2, 0, none⟩) n n)) → w'.cell? ⟨gs, 11, none⟩ = some (.slice (some ⟨g1, 0, none⟩) n n) ∧ w'.cell? ⟨gs, 12, none⟩ = some (.slice (some ⟨g2, 0, none⟩) n n) ∧ w'.cell? ⟨bu, ou + k, none⟩ = some (.bool y)) := fun w' h => by
            have L := h.2.lc
            obtain ⟨b'', o'', e'', _, hcu⟩ := (HU.out.below h.1).cell k hu0
            cases e''
            rw [hyv.out] at hcu
            exact ⟨L.2.1, L.2.2, hcu⟩
          refine wp_region_noPanic ?_
          refine wp_region_held_drew (S := fun w' => Below W1.heap.size W1 w' ∧ OAt w' gs (lobj (JS.first 7) E (some ⟨g1, 0, none⟩) n n (some ⟨g2, 0, none⟩) n n)) (by kernel_rfl) HD.out (fun hHeld => ?_)
          refine take_set (i := 0) (v := .pointer (some ⟨gs, 11, none⟩)) rfl rfl (by kernel_rfl) (by kernel_rfl) (by kernel_rfl) (fun _ _ _ h => h) (Or.inl ⟨by kernel_rfl, fun w' hSw => ?_⟩) hHeld ?_
          · go_simp
          simp only [List.set_cons_succ, List.set_cons_zero]
          refine take_set (i := 1) (v := .slice (some ⟨g1, 0, none⟩) n n) rfl rfl (by kernel_rfl) (by kernel_rfl) (by kernel_rfl) (fun _ _ _ h => h) (Or.inl ⟨by kernel_rfl, fun w' hSw => ?_⟩) hHeld ?_
          · have hl2 := hcs.out w' hSw; go_simp
          simp only [List.set_cons_succ, List.set_cons_zero]
          refine take_set (i := 2) (v := .int .i64 (k : Int)) rfl rfl (by kernel_rfl) (by kernel_rfl) (by kernel_rfl) (fun _ _ _ h => h) (Or.inl ⟨by kernel_rfl, fun w' hSw => ?_⟩) hHeld ?_
          · go_simp
          simp only [List.set_cons_succ, List.set_cons_zero]
          refine take_set (i := 3) (v := .pointer (some ⟨gs, 12, none⟩)) rfl rfl (by kernel_rfl) (by kernel_rfl) (by kernel_rfl) (fun _ _ _ h => h) (Or.inl ⟨by kernel_rfl, fun w' hSw => ?_⟩) hHeld ?_
          · go_simp
          simp only [List.set_cons_succ, List.set_cons_zero]
          refine take_set (i := 4) (v := .slice (some ⟨g2, 0, none⟩) n n) rfl rfl (by kernel_rfl) (by kernel_rfl) (by kernel_rfl) (fun _ _ _ h => h) (Or.inl ⟨by kernel_rfl, fun w' hSw => ?_⟩) hHeld ?_
          · have hl2 := hcs.out w' hSw; go_simp
          simp only [List.set_cons_succ, List.set_cons_zero]
          refine take_set (i := 5) (v := .int .i64 (k : Int)) rfl rfl (by kernel_rfl) (by kernel_rfl) (by kernel_rfl) (fun _ _ _ h => h) (Or.inl ⟨by kernel_rfl, fun w' hSw => ?_⟩) hHeld ?_
          · go_simp
          simp only [List.set_cons_succ, List.set_cons_zero]
          refine take_set (i := 6) (v := .int .i64 (k : Int)) rfl rfl (by kernel_rfl) (by kernel_rfl) (by kernel_rfl) (fun _ _ _ h => h) (Or.inl ⟨by kernel_rfl, fun w' hSw => ?_⟩) hHeld ?_
          · go_simp
          simp only [List.set_cons_succ, List.set_cons_zero]
          refine take_set (i := 7) (v := .slice a2 len2 cap2) rfl rfl (by kernel_rfl) (by kernel_rfl) (by kernel_rfl) (fun _ _ _ h => h) (Or.inl ⟨by kernel_rfl, fun w' hSw => ?_⟩) hHeld ?_
          · go_simp
          simp only [List.set_cons_succ, List.set_cons_zero]
          refine take_set (i := 8) (v := .int .i64 (len2 : Int)) rfl rfl (by kernel_rfl) (by kernel_rfl) (by kernel_rfl) (fun _ _ _ h => h) (Or.inl ⟨by kernel_rfl, fun w' hSw => ?_⟩) hHeld ?_
          · go_simp
          simp only [List.set_cons_succ, List.set_cons_zero]
          refine take_set (i := 9) (v := .bool false) rfl rfl (by kernel_rfl) (by kernel_rfl) (by kernel_rfl) (fun _ _ _ h => h) (Or.inl ⟨by kernel_rfl, fun w' hSw => ?_⟩) hHeld ?_
          · go_simp
          simp only [List.set_cons_succ, List.set_cons_zero]
          refine take_set (i := 10) (v := .bool false) rfl rfl (by kernel_rfl) (by kernel_rfl) (by kernel_rfl) (fun _ _ _ h => h) (Or.inl ⟨by kernel_rfl, fun w' hSw => ?_⟩) hHeld ?_
          · go_simp
          simp only [List.set_cons_succ, List.set_cons_zero]
          refine take_set (i := 11) (v := undef) rfl rfl (by kernel_rfl) (by kernel_rfl) (by kernel_rfl) (fun _ _ _ h => h) (Or.inr ⟨by kernel_rfl, rfl⟩) hHeld ?_
          simp only [List.set_cons_succ, List.set_cons_zero]
          refine take_set (i := 12) (v := undef) rfl rfl (by kernel_rfl) (by kernel_rfl) (by kernel_rfl) (fun _ _ _ h => h) (Or.inr ⟨by kernel_rfl, rfl⟩) hHeld ?_
          simp only [List.set_cons_succ, List.set_cons_zero]
          refine take_set (i := 13) (v := undef) rfl rfl (by kernel_rfl) (by kernel_rfl) (by kernel_rfl) (fun _ _ _ h => h) (Or.inr ⟨by kernel_rfl, rfl⟩) hHeld ?_
          simp only [List.set_cons_succ, List.set_cons_zero]
          refine take_set (i := 14) (v := undef) rfl rfl (by kernel_rfl) (by kernel_rfl) (by kernel_rfl) (fun _ _ _ h => h) (Or.inr ⟨by kernel_rfl, rfl⟩) hHeld ?_
          simp only [List.set_cons_succ, List.set_cons_zero]
          refine take_set (i := 15) (v := .bool false) rfl rfl (by kernel_rfl) (by kernel_rfl) (by kernel_rfl) (fun _ _ _ h => h) (Or.inl ⟨by kernel_rfl, fun w' hSw => ?_⟩) hHeld ?_
          · go_simp
          simp only [List.set_cons_succ, List.set_cons_zero]
          refine take_set (i := 16) (v := .int .i64 (k : Int)) rfl rfl (by kernel_rfl) (by kernel_rfl) (by kernel_rfl) (fun _ _ _ h => h) (Or.inl ⟨by kernel_rfl, fun w' hSw => ?_⟩) hHeld ?_
          · go_simp
          simp only [List.set_cons_succ, List.set_cons_zero]
          refine take_set (i := 17) (v := .slice (some ⟨bu, ou, none⟩) len3 cap3) rfl rfl (by kernel_rfl) (by kernel_rfl) (by kernel_rfl) (fun _ _ _ h => h) (Or.inl ⟨by kernel_rfl, fun w' hSw => ?_⟩) hHeld ?_
          · go_simp
          simp only [List.set_cons_succ, List.set_cons_zero]
          refine take_set (i := 18) (v := .int .i64 (len3 : Int)) rfl rfl (by kernel_rfl) (by kernel_rfl) (by kernel_rfl) (fun _ _ _ h => h) (Or.inl ⟨by kernel_rfl, fun w' hSw => ?_⟩) hHeld ?_
          · go_simp
          simp only [List.set_cons_succ, List.set_cons_zero]
          refine take_set (i := 19) (v := .bool true) rfl rfl (by kernel_rfl) (by kernel_rfl) (by kernel_rfl) (fun _ _ _ h => h) (Or.inl ⟨by kernel_rfl, fun w' hSw => ?_⟩) hHeld ?_
          · go_simp
          simp only [List.set_cons_succ, List.set_cons_zero]
          refine take_set (i := 20) (v := .bool true) rfl rfl (by kernel_rfl) (by kernel_rfl) (by kernel_rfl) (fun _ _ _ h => h) (Or.inl ⟨by kernel_rfl, fun w' hSw => ?_⟩) hHeld ?_
          · go_simp
          simp only [List.set_cons_succ, List.set_cons_zero]
          refine take_set (i := 21) (v := .slice (some ⟨bu, ou, none⟩) len3 cap3) rfl rfl (by kernel_rfl) (by kernel_rfl) (by kernel_rfl) (fun _ _ _ h => h) (Or.inl ⟨by kernel_rfl, fun w' hSw => ?_⟩) hHeld ?_
          · go_simp
          simp only [List.set_cons_succ, List.set_cons_zero]
          refine take_set (i := 22) (v := .int .i64 (k : Int)) rfl rfl (by kernel_rfl) (by kernel_rfl) (by kernel_rfl) (fun _ _ _ h => h) (Or.inl ⟨by kernel_rfl, fun w' hSw => ?_⟩) hHeld ?_
          · go_simp
          simp only [List.set_cons_succ, List.set_cons_zero]
          refine take_set (i := 23) (v := .pointer (some ⟨bu, ou + k, none⟩)) rfl rfl (by kernel_rfl) (by kernel_rfl) (by kernel_rfl) (fun _ _ _ h => h) (Or.inl ⟨by kernel_rfl, fun w' hSw => ?_⟩) hHeld ?_
          · go_simp
          simp only [List.set_cons_succ, List.set_cons_zero]
          refine take_set (i := 24) (v := .bool y) rfl rfl (by kernel_rfl) (by kernel_rfl) (by kernel_rfl) (fun _ _ _ h => h) (Or.inl ⟨by kernel_rfl, fun w' hSw => ?_⟩) hHeld ?_
          · have hl2 := hcs.out w' hSw; go_simp
          simp only [List.set_cons_succ, List.set_cons_zero]
          refine take_set (i := 25) (v := .bool y) rfl rfl (by kernel_rfl) (by kernel_rfl) (by kernel_rfl) (fun _ _ _ h => h) (Or.inl ⟨by kernel_rfl, fun w' hSw => ?_⟩) hHeld ?_
          · go_simp
          simp only [List.set_cons_succ, List.set_cons_zero]
          refine take_set (i := 26) (v := .pointer (some ⟨g1, k, none⟩)) rfl rfl (by kernel_rfl) (by kernel_rfl) (by kernel_rfl) (fun _ _ _ h => h) (Or.inl ⟨by kernel_rfl, fun w' hSw => ?_⟩) hHeld ?_
          · go_simp
          simp only [List.set_cons_succ, List.set_cons_zero]
          refine wpAnyH_ready (rs := [27]) (by kernel_rfl) (by simp) ?_
          refine AllReadyH.cons (o := _) rfl (fun K hK => ?_) AllReadyH.nil
          go_simp
          refine hK.out _ _ (HM.out) (fun hHeld => ?_)
          clear hK K
          refine take_set (i := 28) (v := .pointer (some ⟨g2, k, none⟩)) rfl rfl (by kernel_rfl) (by kernel_rfl) (by kernel_rfl) (fun _ _ _ h => h) (Or.inl ⟨by kernel_rfl, fun w' hSw => ?_⟩) hHeld ?_
          · go_simp
          simp only [List.set_cons_succ, List.set_cons_zero]
          refine wpAnyH_ready (rs := [29]) (by kernel_rfl) (by simp) ?_
          refine AllReadyH.cons (o := _) rfl (fun K hK => ?_) AllReadyH.nil
          go_simp
          refine hK.out _ _ (⟨HF.out.2.2.2, HF.out.2.2.1⟩) (fun hHeld => ?_)
          clear hK K
          refine wpAnyH_done (by kernel_rfl) ?_ _
          refine NoPanic.normal ?_
          go_wp2
          go_roundw
          case rel => exact ⟨k + 1, by omega, by go_num, HF⟩
          case measure => simp [intOf]; omega
        · have hy0 : y = false := by rw [← hyv.out, List.getD_eq_getElem?_getD, List.getElem?_eq_none (by rw [hur.len]; omega)]; rfl
          subst hy0
          have hcs : Hid (∀ w', (Below W1.heap.size W1 w' ∧ OAt w' gs (lobj (JS.first 7) E (some ⟨g1, 0, none⟩) n n (some ⟨g2, 0, none⟩) n n)) → w'.cell? ⟨gs, 11, none⟩ = some (.slice (some ⟨g1, 0, none⟩) n n) ∧ w'.cell? ⟨gs, 12, none⟩ = some (.slice (some ⟨g2, 0, none⟩) n n)) := fun w' h => by
            have L := h.2.lc
            exact ⟨L.2.1, L.2.2⟩
          refine wp_region_noPanic ?_
          refine wp_region_held_drew (S := fun w' => Below W1.heap.size W1 w' ∧ OAt w' gs (lobj (JS.first 7) E (some ⟨g1, 0, none⟩) n n (some ⟨g2, 0, none⟩) n n)) (by kernel_rfl) HD.out (fun hHeld => ?_)
          refine take_set (i := 0) (v := .pointer (some ⟨gs, 11, none⟩)) rfl rfl (by kernel_rfl) (by kernel_rfl) (by kernel_rfl) (fun _ _ _ h => h) (Or.inl ⟨by kernel_rfl, fun w' hSw => ?_⟩) hHeld ?_
          · go_simp
          simp only [List.set_cons_succ, List.set_cons_zero]
          refine take_set (i := 1) (v := .slice (some ⟨g1, 0, none⟩) n n) rfl rfl (by kernel_rfl) (by kernel_rfl) (by kernel_rfl) (fun _ _ _ h => h) (Or.inl ⟨by kernel_rfl, fun w' hSw => ?_⟩) hHeld ?_
          · have hl2 := hcs.out w' hSw; go_simp
          simp only [List.set_cons_succ, List.set_cons_zero]
          refine take_set (i := 2) (v := .int .i64 (k : Int)) rfl rfl (by kernel_rfl) (by kernel_rfl) (by kernel_rfl) (fun _ _ _ h => h) (Or.inl ⟨by kernel_rfl, fun w' hSw => ?_⟩) hHeld ?_
          · go_simp
          simp only [List.set_cons_succ, List.set_cons_zero]
          refine take_set (i := 3) (v := .pointer (some ⟨gs, 12, none⟩)) rfl rfl (by kernel_rfl) (by kernel_rfl) (by kernel_rfl) (fun _ _ _ h => h) (Or.inl ⟨by kernel_rfl, fun w' hSw => ?_⟩) hHeld ?_
          · go_simp
          simp only [List.set_cons_succ, List.set_cons_zero]
          refine take_set (i := 4) (v := .slice (some ⟨g2, 0, none⟩) n n) rfl rfl (by kernel_rfl) (by kernel_rfl) (by kernel_rfl) (fun _ _ _ h => h) (Or.inl ⟨by kernel_rfl, fun w' hSw => ?_⟩) hHeld ?_
          · have hl2 := hcs.out w' hSw; go_simp
          simp only [List.set_cons_succ, List.set_cons_zero]
          refine take_set (i := 5) (v := .int .i64 (k : Int)) rfl rfl (by kernel_rfl) (by kernel_rfl) (by kernel_rfl) (fun _ _ _ h => h) (Or.inl ⟨by kernel_rfl, fun w' hSw => ?_⟩) hHeld ?_
          · go_simp
          simp only [List.set_cons_succ, List.set_cons_zero]
          refine take_set (i := 6) (v := .int .i64 (k : Int)) rfl rfl (by kernel_rfl) (by kernel_rfl) (by kernel_rfl) (fun _ _ _ h => h) (Or.inl ⟨by kernel_rfl, fun w' hSw => ?_⟩) hHeld ?_
          · go_simp
          simp only [List.set_cons_succ, List.set_cons_zero]
          refine take_set (i := 7) (v := .slice a2 len2 cap2) rfl rfl (by kernel_rfl) (by kernel_rfl) (by kernel_rfl) (fun _ _ _ h => h) (Or.inl ⟨by kernel_rfl, fun w' hSw => ?_⟩) hHeld ?_
          · go_simp
          simp only [List.set_cons_succ, List.set_cons_zero]
          refine take_set (i := 8) (v := .int .i64 (len2 : Int)) rfl rfl (by kernel_rfl) (by kernel_rfl) (by kernel_rfl) (fun _ _ _ h => h) (Or.inl ⟨by kernel_rfl, fun w' hSw => ?_⟩) hHeld ?_
          · go_simp
          simp only [List.set_cons_succ, List.set_cons_zero]
          refine take_set (i := 9) (v := .bool false) rfl rfl (by kernel_rfl) (by kernel_rfl) (by kernel_rfl) (fun _ _ _ h => h) (Or.inl ⟨by kernel_rfl, fun w' hSw => ?_⟩) hHeld ?_
          · go_simp
          simp only [List.set_cons_succ, List.set_cons_zero]
          refine take_set (i := 10) (v := .bool false) rfl rfl (by kernel_rfl) (by kernel_rfl) (by kernel_rfl) (fun _ _ _ h => h) (Or.inl ⟨by kernel_rfl, fun w' hSw => ?_⟩) hHeld ?_
          · go_simp
          simp only [List.set_cons_succ, List.set_cons_zero]
          refine take_set (i := 11) (v := undef) rfl rfl (by kernel_rfl) (by kernel_rfl) (by kernel_rfl) (fun _ _ _ h => h) (Or.inr ⟨by kernel_rfl, rfl⟩) hHeld ?_
          simp only [List.set_cons_succ, List.set_cons_zero]
          refine take_set (i := 12) (v := undef) rfl rfl (by kernel_rfl) (by kernel_rfl) (by kernel_rfl) (fun _ _ _ h => h) (Or.inr ⟨by kernel_rfl, rfl⟩) hHeld ?_
          simp only [List.set_cons_succ, List.set_cons_zero]
          refine take_set (i := 13) (v := undef) rfl rfl (by kernel_rfl) (by kernel_rfl) (by kernel_rfl) (fun _ _ _ h => h) (Or.inr ⟨by kernel_rfl, rfl⟩) hHeld ?_
          simp only [List.set_cons_succ, List.set_cons_zero]
          refine take_set (i := 14) (v := undef) rfl rfl (by kernel_rfl) (by kernel_rfl) (by kernel_rfl) (fun _ _ _ h => h) (Or.inr ⟨by kernel_rfl, rfl⟩) hHeld ?_
          simp only [List.set_cons_succ, List.set_cons_zero]
          refine take_set (i := 15) (v := .bool false) rfl rfl (by kernel_rfl) (by kernel_rfl) (by kernel_rfl) (fun _ _ _ h => h) (Or.inl ⟨by kernel_rfl, fun w' hSw => ?_⟩) hHeld ?_
          · go_simp
          simp only [List.set_cons_succ, List.set_cons_zero]
          refine take_set (i := 16) (v := .int .i64 (k : Int)) rfl rfl (by kernel_rfl) (by kernel_rfl) (by kernel_rfl) (fun _ _ _ h => h) (Or.inl ⟨by kernel_rfl, fun w' hSw => ?_⟩) hHeld ?_
          · go_simp
          simp only [List.set_cons_succ, List.set_cons_zero]
          refine take_set (i := 17) (v := .slice a3 len3 cap3) rfl rfl (by kernel_rfl) (by kernel_rfl) (by kernel_rfl) (fun _ _ _ h => h) (Or.inl ⟨by kernel_rfl, fun w' hSw => ?_⟩) hHeld ?_
          · go_simp
          simp only [List.set_cons_succ, List.set_cons_zero]
          refine take_set (i := 18) (v := .int .i64 (len3 : Int)) rfl rfl (by kernel_rfl) (by kernel_rfl) (by kernel_rfl) (fun _ _ _ h => h) (Or.inl ⟨by kernel_rfl, fun w' hSw => ?_⟩) hHeld ?_
          · go_simp
          simp only [List.set_cons_succ, List.set_cons_zero]
          refine take_set (i := 19) (v := .bool false) rfl rfl (by kernel_rfl) (by kernel_rfl) (by kernel_rfl) (fun _ _ _ h => h) (Or.inl ⟨by kernel_rfl, fun w' hSw => ?_⟩) hHeld ?_
          · go_simp
          simp only [List.set_cons_succ, List.set_cons_zero]
          refine take_set (i := 20) (v := .bool false) rfl rfl (by kernel_rfl) (by kernel_rfl) (by kernel_rfl) (fun _ _ _ h => h) (Or.inl ⟨by kernel_rfl, fun w' hSw => ?_⟩) hHeld ?_
          · go_simp
          simp only [List.set_cons_succ, List.set_cons_zero]
          refine take_set (i := 21) (v := undef) rfl rfl (by kernel_rfl) (by kernel_rfl) (by kernel_rfl) (fun _ _ _ h => h) (Or.inr ⟨by kernel_rfl, rfl⟩) hHeld ?_
          simp only [List.set_cons_succ, List.set_cons_zero]
          refine take_set (i := 22) (v := undef) rfl rfl (by kernel_rfl) (by kernel_rfl) (by kernel_rfl) (fun _ _ _ h => h) (Or.inr ⟨by kernel_rfl, rfl⟩) hHeld ?_
          simp only [List.set_cons_succ, List.set_cons_zero]
          refine take_set (i := 23) (v := undef) rfl rfl (by kernel_rfl) (by kernel_rfl) (by kernel_rfl) (fun _ _ _ h => h) (Or.inr ⟨by kernel_rfl, rfl⟩) hHeld ?_
          simp only [List.set_cons_succ, List.set_cons_zero]
          refine take_set (i := 24) (v := undef) rfl rfl (by kernel_rfl) (by kernel_rfl) (by kernel_rfl) (fun _ _ _ h => h) (Or.inr ⟨by kernel_rfl, rfl⟩) hHeld ?_
          simp only [List.set_cons_succ, List.set_cons_zero]
          refine take_set (i := 25) (v := .bool false) rfl rfl (by kernel_rfl) (by kernel_rfl) (by kernel_rfl) (fun _ _ _ h => h) (Or.inl ⟨by kernel_rfl, fun w' hSw => ?_⟩) hHeld ?_
          · go_simp
          simp only [List.set_cons_succ, List.set_cons_zero]
          refine take_set (i := 26) (v := .pointer (some ⟨g1, k, none⟩)) rfl rfl (by kernel_rfl) (by kernel_rfl) (by kernel_rfl) (fun _ _ _ h => h) (Or.inl ⟨by kernel_rfl, fun w' hSw => ?_⟩) hHeld ?_
          · go_simp
          simp only [List.set_cons_succ, List.set_cons_zero]
          refine wpAnyH_ready (rs := [27]) (by kernel_rfl) (by simp) ?_
          refine AllReadyH.cons (o := _) rfl (fun K hK => ?_) AllReadyH.nil
          go_simp
          refine hK.out _ _ (HM.out) (fun hHeld => ?_)
          clear hK K
          refine take_set (i := 28) (v := .pointer (some ⟨g2, k, none⟩)) rfl rfl (by kernel_rfl) (by kernel_rfl) (by kernel_rfl) (fun _ _ _ h => h) (Or.inl ⟨by kernel_rfl, fun w' hSw => ?_⟩) hHeld ?_
          · go_simp
          simp only [List.set_cons_succ, List.set_cons_zero]
          refine wpAnyH_ready (rs := [29]) (by kernel_rfl) (by simp) ?_
          refine AllReadyH.cons (o := _) rfl (fun K hK => ?_) AllReadyH.nil
          go_simp
          refine hK.out _ _ (⟨HF.out.2.2.2, HF.out.2.2.1⟩) (fun hHeld => ?_)
          clear hK K
          refine wpAnyH_done (by kernel_rfl) ?_ _
          refine NoPanic.normal ?_
          go_wp2
          go_roundw
          case rel => exact ⟨k + 1, by omega, by go_num, HF⟩
          case measure => simp [intOf]; omega
    · have hkk : k = n := by omega
      subst hkk
      have HA1 := hide (RowB.obj (n := k) ho1 (fil_len vs k k (Nat.le_refl _)) (by unfold maxLen; omega))
      have HA2 := hide (RowB.obj (n := k) ho2 (fil_len us k k (Nat.le_refl _)) (by unfold maxLen; omega))
      have HSr := hide hoS
      have HXr := hide (HX.out.below hbr)
      have HRr := hide (HR.out.below hbr)
      have HCHr := hide (HCH.out.below hbr)
      have HNr := hide (HW1.out.trans (hbr.mono (by omega)))
      have hgr : Hid (gs < wr.heap.size) := hide hoS.lt
      obtain ⟨J, hJ⟩ : ∃ x, Hid (pullJ bs S (chf a1) ⟨JS.first 7, E, fil vs k k, fil us k k⟩ = x) := ⟨_, rfl⟩
      obtain ⟨pv, hpv⟩ : ∃ x, Hid (fil vs k k = x) := ⟨_, rfl⟩
      obtain ⟨pu, hpu⟩ : ∃ x, Hid (fil us k k = x) := ⟨_, rfl⟩
      rw [hpv.out] at HA1 hJ
      rw [hpu.out] at HA2 hJ
      have hX : Hid (advS bs S (chf a1) ⟨JS.first 7, E, pv, pu⟩ ((E + 1) * S) = ⟨J, E + 1, pu, List.replicate k false⟩) := by
        have h := adv_one bs S (chf a1) ⟨JS.first 7, E, pv, pu⟩ hSb (show 0 ≤ E ∧ E ≤ 100 by omega)
        rw [show (⟨JS.first 7, E, pv, pu⟩ : LS).e = E from rfl] at h
        rw [h]
        unfold stepS
        rw [hJ.out, hn]
        exact hide rfl
      have hES : 0 ≤ (E + 1) * S ∧ (E + 1) * S ≤ 20 * 64 := ⟨Int.mul_nonneg (by omega) (by omega), Int.mul_le_mul (by omega) hSb.2 (by omega) (by omega)⟩
      have hst : Hid (wrap64 (lo0 (E + 1) * lo1 S) = (E + 1) * S) := by
        unfold lo0 lo1
        rw [if_neg (by omega), if_neg (by omega)]
        show wrap64 _ = _
        generalize (E + 1) * S = t at hES
        unfold wrap64
        omega
      obtain ⟨T, hT⟩ : ∃ x, (E + 1) * S = x := ⟨_, rfl⟩
      rw [hT] at hX hES hst
      have hTi : I64s T := by unfold I64s; omega
      have hEi : I64s E := by unfold I64s; omega
      have hE1i : I64s (E + 1) := by unfold I64s; omega
      have hw1 : IntKind.i64.wrap (E + 1) = E + 1 := by rw [IntKind.wrap_i64]; omega
      clear hT
      have hxs : Hid (∀ w', Below wr.heap.size wr w' → w'.cell? ⟨hc, 0, none⟩ = some (.slice ao k d) ∧ w'.cell? ⟨hc, 1, none⟩ = some (.int .i64 S) ∧ w'.cell? ⟨hc, 2, none⟩ = some (.int .i64 B) ∧ w'.cell? ⟨gs, 10, none⟩ = some (.int .i64 E) ∧ w'.cell? ⟨gs, 11, none⟩ = some (.slice (some ⟨g1, 0, none⟩) k k) ∧ w'.cell? ⟨gs, 12, none⟩ = some (.slice (some ⟨g2, 0, none⟩) k k)) := fun w' h => by
        have V := HXr.out.below h
        have L := (HSr.out.below h).lc
        exact ⟨V.cell 0, V.cell 1, V.cell 2, L.1, L.2.1, L.2.2⟩
      have hss : Hid (∀ w', Below wr.heap.size wr w' → (Instr.loadAt 39 (.pointer (some ⟨gs, 0, none⟩))).run Try.prog w' = .ok (.agg (lcells (JS.first 7) E (some ⟨g1, 0, none⟩) k k (some ⟨g2, 0, none⟩) k k)) w') := fun w' h => load_obj Try.underlying39 infoLS rfl (HSr.out.below h).at_
      clear hI ho1 ho2 hoS hbr HV HU HX HR HCH HW1 HRF
      go_upto_region 14 with fail
      go_cut [15] from 80 to 89 (fun x wx => ∃ g b1 d1 b2 d2, x = Value.pointer (some ⟨g, 0, none⟩) ∧ Hid (OAt wx g (lobj J (E + 1) b1 k d1 b2 k d2) ∧ RowB wx b1 k d1 pu ∧ RowB wx b2 k d2 (List.replicate k false) ∧ wr.heap.size ≤ g ∧ Below wr.heap.size wr wx))
      case first =>
        have HB : Hid (Below wr.heap.size wr wr.drew) := hide (Below.refl _ _).drew
        refine wp_region_noPanic ?_
        refine wp_region_held_drew (S := fun w' => Below wr.heap.size wr w') (by kernel_rfl) HB.out (fun hHeld => ?_)
        replace HRr := hide (HRr.out.below HB.out)
        replace HA1 := hide (HA1.out.below HB.out)
        replace HA2 := hide (HA2.out.below HB.out)
        replace HCHr := hide (HCHr.out.below HB.out)
        generalize wr.drew = w0 at HB hHeld HRr HA1 HA2 HCHr ⊢
        refine take_set (i := 0) (v := .agg #[.slice ao k d, .int .i64 S, .int .i64 B]) rfl rfl (by kernel_rfl) (by kernel_rfl) (by kernel_rfl) (fun _ _ _ h => h) (Or.inl ⟨by kernel_rfl, fun w' hSw => ?_⟩) hHeld ?_
        · have hl := hxs.out w' hSw; go_simp
        simp only [List.set_cons_succ, List.set_cons_zero]
        refine take_set (i := 1) (v := .agg (lcells (JS.first 7) E (some ⟨g1, 0, none⟩) k k (some ⟨g2, 0, none⟩) k k)) rfl rfl (by kernel_rfl) (by kernel_rfl) (by kernel_rfl) (fun _ _ _ h => h) (Or.inl ⟨by kernel_rfl, fun w' hSw => ?_⟩) hHeld ?_
        · exact run_load_whole 39 (.tmp 13) rfl _ _ rfl (hss.out w' hSw)
        simp only [List.set_cons_succ, List.set_cons_zero]
        refine take_set (i := 2) (v := .pointer (some ⟨gs, 10, none⟩)) rfl rfl (by kernel_rfl) (by kernel_rfl) (by kernel_rfl) (fun _ _ _ h => h) (Or.inl ⟨by kernel_rfl, fun w' hSw => ?_⟩) hHeld ?_
        · go_simp
        simp only [List.set_cons_succ, List.set_cons_zero]
        refine take_set (i := 3) (v := .int .i64 E) rfl rfl (by kernel_rfl) (by kernel_rfl) (by kernel_rfl) (fun _ _ _ h => h) (Or.inl ⟨by kernel_rfl, fun w' hSw => ?_⟩) hHeld ?_
        · have hl := hxs.out w' hSw; go_simp
        simp only [List.set_cons_succ, List.set_cons_zero]
        refine take_set (i := 4) (v := .int .i64 (E + 1)) rfl rfl (by kernel_rfl) (by kernel_rfl) (by kernel_rfl) (fun _ _ _ h => h) (Or.inl ⟨by kernel_rfl, fun w' hSw => ?_⟩) hHeld ?_
        · go_simp
        simp only [List.set_cons_succ, List.set_cons_zero]
        refine take_set (i := 5) (v := .pointer (some ⟨hc, 1, none⟩)) rfl rfl (by kernel_rfl) (by kernel_rfl) (by kernel_rfl) (fun _ _ _ h => h) (Or.inl ⟨by kernel_rfl, fun w' hSw => ?_⟩) hHeld ?_
        · go_simp
        simp only [List.set_cons_succ, List.set_cons_zero]
        refine take_set (i := 6) (v := .int .i64 S) rfl rfl (by kernel_rfl) (by kernel_rfl) (by kernel_rfl) (fun _ _ _ h => h) (Or.inl ⟨by kernel_rfl, fun w' hSw => ?_⟩) hHeld ?_
        · have hl := hxs.out w' hSw; go_simp
        simp only [List.set_cons_succ, List.set_cons_zero]
        refine take_set (i := 8) (v := chv 28 cap) rfl rfl (by kernel_rfl) (by kernel_rfl) (by kernel_rfl) (fun _ _ _ h => h) (Or.inl ⟨by kernel_rfl, fun w' hSw => ?_⟩) hHeld ?_
        · go_simp
        simp only [List.set_cons_succ, List.set_cons_zero]
        refine wpAnyH_ready (rs := [7, 10]) (by kernel_rfl) (by simp) ?_
        refine AllReadyH.cons (o := _) rfl (fun K hK => ?_) (AllReadyH.cons (o := _) rfl (fun K hK => ?_) (AllReadyH.nil))
        · go_simp
          refine (start_any (E + 1) S w0 hE1i hSi).mono ?_
          rintro es wq1 ⟨rfl, hw⟩
          have hbel : Below w0.heap.size w0 wq1 := by rw [hw]; exact Below.refl _ _
          rw [hst.out]
          replace HRr := hide (HRr.out.below hbel)
          replace HA1 := hide (HA1.out.below hbel)
          replace HA2 := hide (HA2.out.below hbel)
          replace HCHr := hide (HCHr.out.below hbel)
          replace HB := hide (HB.out.trans (hbel.mono HB.out.size))
          have z1 : Hid (w0.heap.size ≤ wq1.heap.size) := hide hbel.size
          clear hbel hw
          refine hK.out _ _ (HB.out) (fun hHeld => ?_)
          clear hK K
          refine wpAnyH_ready (rs := [9, 10]) (by kernel_rfl) (by simp) ?_
          refine AllReadyH.cons (o := _) rfl (fun K hK => ?_) (AllReadyH.cons (o := _) rfl (fun K hK => ?_) (AllReadyH.nil))
          · go_simp
            refine (adv_led bs ⟨JS.first 7, E, pv, pu⟩ 28 cap (chf a1) ao k d S B (some ⟨g1, 0, none⟩) k (some ⟨g2, 0, none⟩) k T wq1 HRr.out hu.out HA1.out HA2.out hn0 enters_law HCHr.out hEi hSi hTi).mono ?_
            rintro ea wq2 ⟨b1, d1, b2, d2, rfl, r1, r2, e1, e2, hbel⟩
            rw [hX.out] at r1 r2 ⊢
            replace HRr := hide (HRr.out.below hbel)
            replace HA1 := hide (HA1.out.below hbel)
            replace HA2 := hide (HA2.out.below hbel)
            replace HCHr := hide (HCHr.out.below hbel)
            replace HB := hide (HB.out.trans (hbel.mono HB.out.size))
            have Q1 := hide (r1)
            have Q2 := hide (r2)
            have z2 : Hid (wq1.heap.size ≤ wq2.heap.size) := hide hbel.size
            have N1 : Hid (∀ b off, b1 = some ⟨b, off, none⟩ → wq1.heap.size ≤ b ∧ b < wq2.heap.size) := hide (fun b off e => ⟨e1 b off e, r1.far (hn0.1) b off e⟩)
            have N2 : Hid (∀ b off, b2 = some ⟨b, off, none⟩ → wq1.heap.size ≤ b ∧ b < wq2.heap.size) := hide (fun b off e => ⟨e2 b off e, r2.far (hn0.1) b off e⟩)
            clear hbel r1 r2 e1 e2
            refine hK.out _ _ (HB.out) (fun hHeld => ?_)
            clear hK K
            have hbel := below_alloc wq2 (lobj jz 0 none 0 0 none 0 0)
            have HT := hide (OAt.new wq2 (lobj jz 0 none 0 0 none 0 0))
            refine wpAnyH_ready (rs := [10]) (by kernel_rfl) (by simp) ?_
            refine AllReadyH.cons (o := _) rfl (fun K hK => ?_) AllReadyH.nil
            go_simp
            refine hK.out _ _ (HB.out.trans (hbel.mono HB.out.size)) (fun hHeld => ?_)
            clear hK K
            have z3 : Hid ((wq2.alloc (lobj jz 0 none 0 0 none 0 0)).heap.size = wq2.heap.size + 1) := hide (by simp)
            generalize wq2.alloc (lobj jz 0 none 0 0 none 0 0) = wq3 at hbel HT hHeld z3 ⊢
            replace HRr := hide (HRr.out.below hbel)
            replace HA1 := hide (HA1.out.below hbel)
            replace HA2 := hide (HA2.out.below hbel)
            replace HCHr := hide (HCHr.out.below hbel)
            replace Q1 := hide (Q1.out.below hbel)
            replace Q2 := hide (Q2.out.below hbel)
            have HTs : Hid (wr.heap.size ≤ wq2.heap.size) := hide HB.out.size
            replace HB := hide (HB.out.trans (hbel.mono HB.out.size))
            clear hbel
            obtain ⟨gT, gTe⟩ : ∃ x, Hid (wq2.heap.size = x) := ⟨_, rfl⟩
            rw [gTe.out] at HT HTs ⊢
            refine wpAnyH_ready (rs := [11]) (by kernel_rfl) (by simp) ?_
            refine AllReadyH.cons (o := _) rfl (fun K hK => ?_) AllReadyH.nil
            obtain ⟨wq4, hrun, hoS, haS⟩ := store_obj (P := Try.prog) (ty := 39) (n := 13) (cs := (lcells J (E + 1) b1 k d1 b2 k d2).toList) infoLS rfl rfl (lcells_one _ _ _ _ _ _ _ _) HT.out.at_
            have y1 := z1.out
            have y2 := z2.out
            have y3 := z3.out
            have yT := HTs.out
            have yg := gTe.out
            refine step_store_at 39 (.tmp 15) (.tmp 89) rfl rfl _ _ rfl rfl wq4 hrun ?_
            have HG := hide ((show OAt wq4 gT (.cells (lcells J (E + 1) b1 k d1 b2 k d2) 39) from OAt.of hoS))
            have K1 := hide (Q1.out.aside haS (fun b off e => by have := N1.out b off e; omega))
            have K2 := hide (Q2.out.aside haS (fun b off e => by have := N2.out b off e; omega))
            have HBB := hide (HB.out.trans (haS.old _ HB.out.size (by omega)))
            have M1 := hide ((fun b off e => by have := N1.out b off e; omega : ∀ b off, b1 = some ⟨b, off, none⟩ → b ≠ gT))
            have M2 := hide ((fun b off e => by have := N2.out b off e; omega : ∀ b off, b2 = some ⟨b, off, none⟩ → b ≠ gT))
            refine hK.out _ _ ((HB.out.trans (haS.old _ HB.out.size (by omega)))) (fun hHeld => ?_)
            clear hK K
            refine wpAnyH_done (by kernel_rfl) ?_ _
            refine NoPanic.normal ?_
            go_wp2
            go_meet
            exact ⟨gT, b1, d1, b2, d2, rfl, hide ⟨HG.out, K1.out, K2.out, HTs.out, HBB.out⟩⟩
          · have hbel := below_alloc wq1 (lobj jz 0 none 0 0 none 0 0)
            have HT := hide (OAt.new wq1 (lobj jz 0 none 0 0 none 0 0))
            go_simp
            refine hK.out _ _ (HB.out.trans (hbel.mono HB.out.size)) (fun hHeld => ?_)
            clear hK K
            have z2 : Hid ((wq1.alloc (lobj jz 0 none 0 0 none 0 0)).heap.size = wq1.heap.size + 1) := hide (by simp)
            generalize wq1.alloc (lobj jz 0 none 0 0 none 0 0) = wq2 at hbel HT hHeld z2 ⊢
            replace HRr := hide (HRr.out.below hbel)
            replace HA1 := hide (HA1.out.below hbel)
            replace HA2 := hide (HA2.out.below hbel)
            replace HCHr := hide (HCHr.out.below hbel)
            have HTs : Hid (wr.heap.size ≤ wq1.heap.size) := hide HB.out.size
            replace HB := hide (HB.out.trans (hbel.mono HB.out.size))
            clear hbel
            obtain ⟨gT, gTe⟩ : ∃ x, Hid (wq1.heap.size = x) := ⟨_, rfl⟩
            rw [gTe.out] at HT HTs ⊢
            refine wpAnyH_ready (rs := [9]) (by kernel_rfl) (by simp) ?_
            refine AllReadyH.cons (o := _) rfl (fun K hK => ?_) AllReadyH.nil
            go_simp
            refine (adv_led bs ⟨JS.first 7, E, pv, pu⟩ 28 cap (chf a1) ao k d S B (some ⟨g1, 0, none⟩) k (some ⟨g2, 0, none⟩) k T wq2 HRr.out hu.out HA1.out HA2.out hn0 enters_law HCHr.out hEi hSi hTi).mono ?_
            rintro ea wq3 ⟨b1, d1, b2, d2, rfl, r1, r2, e1, e2, hbel⟩
            rw [hX.out] at r1 r2 ⊢
            replace HRr := hide (HRr.out.below hbel)
            replace HA1 := hide (HA1.out.below hbel)
            replace HA2 := hide (HA2.out.below hbel)
            replace HCHr := hide (HCHr.out.below hbel)
            replace HT := hide (HT.out.below hbel)
            replace HB := hide (HB.out.trans (hbel.mono HB.out.size))
            have Q1 := hide (r1)
            have Q2 := hide (r2)
            have z3 : Hid (wq2.heap.size ≤ wq3.heap.size) := hide hbel.size
            have N1 : Hid (∀ b off, b1 = some ⟨b, off, none⟩ → wq2.heap.size ≤ b ∧ b < wq3.heap.size) := hide (fun b off e => ⟨e1 b off e, r1.far (hn0.1) b off e⟩)
            have N2 : Hid (∀ b off, b2 = some ⟨b, off, none⟩ → wq2.heap.size ≤ b ∧ b < wq3.heap.size) := hide (fun b off e => ⟨e2 b off e, r2.far (hn0.1) b off e⟩)
            clear hbel r1 r2 e1 e2
            refine hK.out _ _ (HB.out) (fun hHeld => ?_)
            clear hK K
            refine wpAnyH_ready (rs := [11]) (by kernel_rfl) (by simp) ?_
            refine AllReadyH.cons (o := _) rfl (fun K hK => ?_) AllReadyH.nil
            obtain ⟨wq4, hrun, hoS, haS⟩ := store_obj (P := Try.prog) (ty := 39) (n := 13) (cs := (lcells J (E + 1) b1 k d1 b2 k d2).toList) infoLS rfl rfl (lcells_one _ _ _ _ _ _ _ _) HT.out.at_
            have y1 := z1.out
            have y2 := z2.out
            have y3 := z3.out
            have yT := HTs.out
            have yg := gTe.out
            refine step_store_at 39 (.tmp 15) (.tmp 89) rfl rfl _ _ rfl rfl wq4 hrun ?_
            have HG := hide ((show OAt wq4 gT (.cells (lcells J (E + 1) b1 k d1 b2 k d2) 39) from OAt.of hoS))
            have K1 := hide (Q1.out.aside haS (fun b off e => by have := N1.out b off e; omega))
            have K2 := hide (Q2.out.aside haS (fun b off e => by have := N2.out b off e; omega))
            have HBB := hide (HB.out.trans (haS.old _ HB.out.size (by omega)))
            have M1 := hide ((fun b off e => by have := N1.out b off e; omega : ∀ b off, b1 = some ⟨b, off, none⟩ → b ≠ gT))
            have M2 := hide ((fun b off e => by have := N2.out b off e; omega : ∀ b off, b2 = some ⟨b, off, none⟩ → b ≠ gT))
            refine hK.out _ _ ((HB.out.trans (haS.old _ HB.out.size (by omega)))) (fun hHeld => ?_)
            clear hK K
            refine wpAnyH_done (by kernel_rfl) ?_ _
            refine NoPanic.normal ?_
            go_wp2
            go_meet
            exact ⟨gT, b1, d1, b2, d2, rfl, hide ⟨HG.out, K1.out, K2.out, HTs.out, HBB.out⟩⟩
        · have hbel := below_alloc w0 (lobj jz 0 none 0 0 none 0 0)
          have HT := hide (OAt.new w0 (lobj jz 0 none 0 0 none 0 0))
          go_simp
          refine hK.out _ _ (HB.out.trans (hbel.mono HB.out.size)) (fun hHeld => ?_)
          clear hK K
          have z1 : Hid ((w0.alloc (lobj jz 0 none 0 0 none 0 0)).heap.size = w0.heap.size + 1) := hide (by simp)
          generalize w0.alloc (lobj jz 0 none 0 0 none 0 0) = wq1 at hbel HT hHeld z1 ⊢
          replace HRr := hide (HRr.out.below hbel)
          replace HA1 := hide (HA1.out.below hbel)
          replace HA2 := hide (HA2.out.below hbel)
          replace HCHr := hide (HCHr.out.below hbel)
          have HTs : Hid (wr.heap.size ≤ w0.heap.size) := hide HB.out.size
          replace HB := hide (HB.out.trans (hbel.mono HB.out.size))
          clear hbel
          obtain ⟨gT, gTe⟩ : ∃ x, Hid (w0.heap.size = x) := ⟨_, rfl⟩
          rw [gTe.out] at HT HTs ⊢
          refine wpAnyH_ready (rs := [7]) (by kernel_rfl) (by simp) ?_
          refine AllReadyH.cons (o := _) rfl (fun K hK => ?_) AllReadyH.nil
          go_simp
          refine (start_any (E + 1) S wq1 hE1i hSi).mono ?_
          rintro es wq2 ⟨rfl, hw⟩
          have hbel : Below wq1.heap.size wq1 wq2 := by rw [hw]; exact Below.refl _ _
          rw [hst.out]
          replace HRr := hide (HRr.out.below hbel)
          replace HA1 := hide (HA1.out.below hbel)
          replace HA2 := hide (HA2.out.below hbel)
          replace HCHr := hide (HCHr.out.below hbel)
          replace HT := hide (HT.out.below hbel)
          replace HB := hide (HB.out.trans (hbel.mono HB.out.size))
          have z2 : Hid (wq1.heap.size ≤ wq2.heap.size) := hide hbel.size
          clear hbel hw
          refine hK.out _ _ (HB.out) (fun hHeld => ?_)
          clear hK K
          refine wpAnyH_ready (rs := [9]) (by kernel_rfl) (by simp) ?_
          refine AllReadyH.cons (o := _) rfl (fun K hK => ?_) AllReadyH.nil
          go_simp
          refine (adv_led bs ⟨JS.first 7, E, pv, pu⟩ 28 cap (chf a1) ao k d S B (some ⟨g1, 0, none⟩) k (some ⟨g2, 0, none⟩) k T wq2 HRr.out hu.out HA1.out HA2.out hn0 enters_law HCHr.out hEi hSi hTi).mono ?_
          rintro ea wq3 ⟨b1, d1, b2, d2, rfl, r1, r2, e1, e2, hbel⟩
          rw [hX.out] at r1 r2 ⊢
          replace HRr := hide (HRr.out.below hbel)
          replace HA1 := hide (HA1.out.below hbel)
          replace HA2 := hide (HA2.out.below hbel)
          replace HCHr := hide (HCHr.out.below hbel)
          replace HT := hide (HT.out.below hbel)
          replace HB := hide (HB.out.trans (hbel.mono HB.out.size))
          have Q1 := hide (r1)
          have Q2 := hide (r2)
          have z3 : Hid (wq2.heap.size ≤ wq3.heap.size) := hide hbel.size
          have N1 : Hid (∀ b off, b1 = some ⟨b, off, none⟩ → wq2.heap.size ≤ b ∧ b < wq3.heap.size) := hide (fun b off e => ⟨e1 b off e, r1.far (hn0.1) b off e⟩)
          have N2 : Hid (∀ b off, b2 = some ⟨b, off, none⟩ → wq2.heap.size ≤ b ∧ b < wq3.heap.size) := hide (fun b off e => ⟨e2 b off e, r2.far (hn0.1) b off e⟩)
          clear hbel r1 r2 e1 e2
          refine hK.out _ _ (HB.out) (fun hHeld => ?_)
          clear hK K
          refine wpAnyH_ready (rs := [11]) (by kernel_rfl) (by simp) ?_
          refine AllReadyH.cons (o := _) rfl (fun K hK => ?_) AllReadyH.nil
          obtain ⟨wq4, hrun, hoS, haS⟩ := store_obj (P := Try.prog) (ty := 39) (n := 13) (cs := (lcells J (E + 1) b1 k d1 b2 k d2).toList) infoLS rfl rfl (lcells_one _ _ _ _ _ _ _ _) HT.out.at_
          have y1 := z1.out
          have y2 := z2.out
          have y3 := z3.out
          have yT := HTs.out
          have yg := gTe.out
          refine step_store_at 39 (.tmp 15) (.tmp 89) rfl rfl _ _ rfl rfl wq4 hrun ?_
          have HG := hide ((show OAt wq4 gT (.cells (lcells J (E + 1) b1 k d1 b2 k d2) 39) from OAt.of hoS))
          have K1 := hide (Q1.out.aside haS (fun b off e => by have := N1.out b off e; omega))
          have K2 := hide (Q2.out.aside haS (fun b off e => by have := N2.out b off e; omega))
          have HBB := hide (HB.out.trans (haS.old _ HB.out.size (by omega)))
          have M1 := hide ((fun b off e => by have := N1.out b off e; omega : ∀ b off, b1 = some ⟨b, off, none⟩ → b ≠ gT))
          have M2 := hide ((fun b off e => by have := N2.out b off e; omega : ∀ b off, b2 = some ⟨b, off, none⟩ → b ≠ gT))
          refine hK.out _ _ ((HB.out.trans (haS.old _ HB.out.size (by omega)))) (fun hHeld => ?_)
          clear hK K
          refine wpAnyH_done (by kernel_rfl) ?_ _
          refine NoPanic.normal ?_
          go_wp2
          go_meet
          exact ⟨gT, b1, d1, b2, d2, rfl, hide ⟨HG.out, K1.out, K2.out, HTs.out, HBB.out⟩⟩
      case rest =>
        obtain ⟨g, b1, d1, b2, d2, rfl, hcc⟩ := hcut
        obtain ⟨hG, hQ1, hQ2, hgW, hbel⟩ := hcc.out
        have Q1 := hide hQ1
        have Q2 := hide hQ2
        have HGc := hide hG
        have HXc := hide (HXr.out.below hbel)
        have HSc := hide (HSr.out.below hbel)
        replace HRr := hide (HRr.out.below hbel)
        replace HA1 := hide (HA1.out.below hbel)
        replace HA2 := hide (HA2.out.below hbel)
        replace HCHr := hide (HCHr.out.below hbel)
        have HNc := hide (HNr.out.trans (hbel.mono HNr.out.size))
        clear hcc hG hQ1 hQ2 hbel hxs hss HXr HSr HNr
        go_upto_region 15 with fail
        have hxc : Hid (∀ w', Below wc.heap.size wc w' → w'.cell? ⟨hc, 0, none⟩ = some (.slice ao k d) ∧ w'.cell? ⟨hc, 1, none⟩ = some (.int .i64 S) ∧ w'.cell? ⟨hc, 2, none⟩ = some (.int .i64 B) ∧ w'.cell? ⟨gs, 10, none⟩ = some (.int .i64 E) ∧ w'.cell? ⟨gs, 11, none⟩ = some (.slice (some ⟨g1, 0, none⟩) k k) ∧ w'.cell? ⟨gs, 12, none⟩ = some (.slice (some ⟨g2, 0, none⟩) k k) ∧ w'.cell? ⟨g, 10, none⟩ = some (.int .i64 (E + 1)) ∧ w'.cell? ⟨g, 11, none⟩ = some (.slice b1 k d1) ∧ w'.cell? ⟨g, 12, none⟩ = some (.slice b2 k d2)) := fun w' h => by
          have V := HXc.out.below h
          have L := (HSc.out.below h).lc
          have M := (HGc.out.below h).lc
          exact ⟨V.cell 0, V.cell 1, V.cell 2, L.1, L.2.1, L.2.2, M.1, M.2.1, M.2.2⟩
        have hsc : Hid (∀ w', Below wc.heap.size wc w' → (Instr.loadAt 39 (.pointer (some ⟨gs, 0, none⟩))).run Try.prog w' = .ok (.agg (lcells (JS.first 7) E (some ⟨g1, 0, none⟩) k k (some ⟨g2, 0, none⟩) k k)) w') := fun w' h => load_obj Try.underlying39 infoLS rfl (HSc.out.below h).at_
        have hjc : Hid (∀ w', Below wc.heap.size wc w' → (Instr.loadAt 36 (.pointer (some ⟨g, 0, none⟩))).run Try.prog w' = .ok (.agg J.cells) w') := fun w' h => load_js (HGc.out.below h)
        have hneq := neq_js
        refine startG (fun w' => Below wc.heap.size wc w') 33 (by kernel_rfl) (Below.refl _ _).drew ?_
        refine takeG (i := 0) (v := .pointer (some ⟨g, 10, none⟩)) rfl rfl (by kernel_rfl) (by kernel_rfl) (by kernel_rfl) (by kernel_rfl) (fun _ _ _ h => h) (Or.inl ⟨by kernel_rfl, fun w' hSw => Or.inl ⟨w', ?_, hSw⟩⟩) ?_
        · go_simp
        simp only [List.set_cons_succ, List.set_cons_zero]
        refine takeG (i := 1) (v := .int .i64 (E + 1)) rfl rfl (by kernel_rfl) (by kernel_rfl) (by kernel_rfl) (by kernel_rfl) (fun _ _ _ h => h) (Or.inl ⟨by kernel_rfl, fun w' hSw => Or.inl ⟨w', ?_, hSw⟩⟩) ?_
        · have hl := hxc.out w' hSw; go_simp
        simp only [List.set_cons_succ, List.set_cons_zero]
        refine takeG (i := 2) (v := .pointer (some ⟨gs, 10, none⟩)) rfl rfl (by kernel_rfl) (by kernel_rfl) (by kernel_rfl) (by kernel_rfl) (fun _ _ _ h => h) (Or.inl ⟨by kernel_rfl, fun w' hSw => Or.inl ⟨w', ?_, hSw⟩⟩) ?_
        · go_simp
        simp only [List.set_cons_succ, List.set_cons_zero]
        refine takeG (i := 3) (v := .int .i64 E) rfl rfl (by kernel_rfl) (by kernel_rfl) (by kernel_rfl) (by kernel_rfl) (fun _ _ _ h => h) (Or.inl ⟨by kernel_rfl, fun w' hSw => Or.inl ⟨w', ?_, hSw⟩⟩) ?_
        · have hl := hxc.out w' hSw; go_simp
        simp only [List.set_cons_succ, List.set_cons_zero]
        refine takeG (i := 4) (v := .int .i64 (E + 1)) rfl rfl (by kernel_rfl) (by kernel_rfl) (by kernel_rfl) (by kernel_rfl) (fun _ _ _ h => h) (Or.inl ⟨by kernel_rfl, fun w' hSw => Or.inl ⟨w', ?_, hSw⟩⟩) ?_
        · go_simp
        simp only [List.set_cons_succ, List.set_cons_zero]
        refine takeG (i := 5) (v := .bool false) rfl rfl (by kernel_rfl) (by kernel_rfl) (by kernel_rfl) (by kernel_rfl) (fun _ _ _ h => h) (Or.inl ⟨by kernel_rfl, fun w' hSw => Or.inl ⟨w', ?_, hSw⟩⟩) ?_
        · go_simp
        simp only [List.set_cons_succ, List.set_cons_zero]
        refine takeG (i := 6) (v := .bool false) rfl rfl (by kernel_rfl) (by kernel_rfl) (by kernel_rfl) (by kernel_rfl) (fun _ _ _ h => h) (Or.inl ⟨by kernel_rfl, fun w' hSw => Or.inl ⟨w', ?_, hSw⟩⟩) ?_
        · go_simp
        simp only [List.set_cons_succ, List.set_cons_zero]
        refine takeG (i := 7) (v := .pointer (some ⟨g, 0, none⟩)) rfl rfl (by kernel_rfl) (by kernel_rfl) (by kernel_rfl) (by kernel_rfl) (fun _ _ _ h => h) (Or.inl ⟨by kernel_rfl, fun w' hSw => Or.inl ⟨w', ?_, hSw⟩⟩) ?_
        · go_simp
        simp only [List.set_cons_succ, List.set_cons_zero]
        refine takeG (i := 8) (v := .agg J.cells) rfl rfl (by kernel_rfl) (by kernel_rfl) (by kernel_rfl) (by kernel_rfl) (fun _ _ _ h => h) (Or.inl ⟨by kernel_rfl, fun w' hSw => doesLoad 36 (.tmp 97) rfl _ _ rfl (hjc.out w' hSw) hSw⟩) ?_
        simp only [List.set_cons_succ, List.set_cons_zero]
        refine takeG (i := 9) (v := .agg #[.slice ao k d, .int .i64 S, .int .i64 B]) rfl rfl (by kernel_rfl) (by kernel_rfl) (by kernel_rfl) (by kernel_rfl) (fun _ _ _ h => h) (Or.inl ⟨by kernel_rfl, fun w' hSw => Or.inl ⟨w', ?_, hSw⟩⟩) ?_
        · have hl := hxc.out w' hSw; go_simp
        simp only [List.set_cons_succ, List.set_cons_zero]
        refine takeG (i := 10) (v := .agg (lcells (JS.first 7) E (some ⟨g1, 0, none⟩) k k (some ⟨g2, 0, none⟩) k k)) rfl rfl (by kernel_rfl) (by kernel_rfl) (by kernel_rfl) (by kernel_rfl) (fun _ _ _ h => h) (Or.inl ⟨by kernel_rfl, fun w' hSw => doesLoad 39 (.tmp 13) rfl _ _ rfl (hsc.out w' hSw) hSw⟩) ?_
        simp only [List.set_cons_succ, List.set_cons_zero]
        refine takeG (i := 11) (v := chv 28 cap) rfl rfl (by kernel_rfl) (by kernel_rfl) (by kernel_rfl) (by kernel_rfl) (fun _ _ _ h => h) (Or.inl ⟨by kernel_rfl, fun w' hSw => Or.inl ⟨w', ?_, hSw⟩⟩) ?_
        · go_simp
        simp only [List.set_cons_succ, List.set_cons_zero]
        refine takeG (i := 12) (v := .agg J.cells) rfl rfl (by kernel_rfl) (by kernel_rfl) (by kernel_rfl) (by kernel_rfl) (fun _ _ _ h => h) (Or.inl ⟨by kernel_rfl, fun w' hSw => doesOf rfl (by kernel_rfl) fun K hK => ?_⟩) ?_
        · go_simp
          refine (pull_led bs pv pu 28 cap (chf a1) ao k d S B (JS.first 7) E (some ⟨g1, 0, none⟩) k k (some ⟨g2, 0, none⟩) k k _ (HRr.out.below hSw) hu.out (HA1.out.below hSw) (HA2.out.below hSw) hn0.2 hn0.2 enters_law (HCHr.out.below hSw) hEi hSi).mono ?_
          rintro e w2 ⟨rfl, hb⟩
          rw [hJ.out]
          exact hK.out _ (hSw.trans (hb.mono hSw.size))
        simp only [List.set_cons_succ, List.set_cons_zero]
        refine takeG (i := 13) (v := .bool false) rfl rfl (by kernel_rfl) (by kernel_rfl) (by kernel_rfl) (by kernel_rfl) (fun _ _ _ h => h) (Or.inl ⟨by kernel_rfl, fun w' hSw => Or.inl ⟨w', ?_, hSw⟩⟩) ?_
        · go_simp
        simp only [List.set_cons_succ, List.set_cons_zero]
        refine takeG (i := 14) (v := .bool false) rfl rfl (by kernel_rfl) (by kernel_rfl) (by kernel_rfl) (by kernel_rfl) (fun _ _ _ h => h) (Or.inl ⟨by kernel_rfl, fun w' hSw => Or.inl ⟨w', ?_, hSw⟩⟩) ?_
        · go_simp
        simp only [List.set_cons_succ, List.set_cons_zero]
        refine takeG (i := 15) (v := .bool false) rfl rfl (by kernel_rfl) (by kernel_rfl) (by kernel_rfl) (by kernel_rfl) (fun _ _ _ h => h) (Or.inl ⟨by kernel_rfl, fun w' hSw => Or.inl ⟨w', ?_, hSw⟩⟩) ?_
        · go_simp
        simp only [List.set_cons_succ, List.set_cons_zero]
        refine takeG (i := 16) (v := .pointer (some ⟨g, 12, none⟩)) rfl rfl (by kernel_rfl) (by kernel_rfl) (by kernel_rfl) (by kernel_rfl) (fun _ _ _ h => h) (Or.inl ⟨by kernel_rfl, fun w' hSw => Or.inl ⟨w', ?_, hSw⟩⟩) ?_
        · go_simp
        simp only [List.set_cons_succ, List.set_cons_zero]
        refine takeG (i := 17) (v := .slice b2 k d2) rfl rfl (by kernel_rfl) (by kernel_rfl) (by kernel_rfl) (by kernel_rfl) (fun _ _ _ h => h) (Or.inl ⟨by kernel_rfl, fun w' hSw => Or.inl ⟨w', ?_, hSw⟩⟩) ?_
        · have hl := hxc.out w' hSw; go_simp
        simp only [List.set_cons_succ, List.set_cons_zero]
        refine takeG (i := 18) (v := .int .i64 (k : Int)) rfl rfl (by kernel_rfl) (by kernel_rfl) (by kernel_rfl) (by kernel_rfl) (fun _ _ _ h => h) (Or.inl ⟨by kernel_rfl, fun w' hSw => Or.inl ⟨w', ?_, hSw⟩⟩) ?_
        · go_simp
        simp only [List.set_cons_succ, List.set_cons_zero]
        refine takeG (i := 19) (v := .pointer (some ⟨gs, 12, none⟩)) rfl rfl (by kernel_rfl) (by kernel_rfl) (by kernel_rfl) (by kernel_rfl) (fun _ _ _ h => h) (Or.inl ⟨by kernel_rfl, fun w' hSw => Or.inl ⟨w', ?_, hSw⟩⟩) ?_
        · go_simp
        simp only [List.set_cons_succ, List.set_cons_zero]
        refine takeG (i := 20) (v := .slice (some ⟨g2, 0, none⟩) k k) rfl rfl (by kernel_rfl) (by kernel_rfl) (by kernel_rfl) (by kernel_rfl) (fun _ _ _ h => h) (Or.inl ⟨by kernel_rfl, fun w' hSw => Or.inl ⟨w', ?_, hSw⟩⟩) ?_
        · have hl := hxc.out w' hSw; go_simp
        simp only [List.set_cons_succ, List.set_cons_zero]
        refine takeG (i := 21) (v := .int .i64 (k : Int)) rfl rfl (by kernel_rfl) (by kernel_rfl) (by kernel_rfl) (by kernel_rfl) (fun _ _ _ h => h) (Or.inl ⟨by kernel_rfl, fun w' hSw => Or.inl ⟨w', ?_, hSw⟩⟩) ?_
        · go_simp
        simp only [List.set_cons_succ, List.set_cons_zero]
        refine takeG (i := 22) (v := .bool false) rfl rfl (by kernel_rfl) (by kernel_rfl) (by kernel_rfl) (by kernel_rfl) (fun _ _ _ h => h) (Or.inl ⟨by kernel_rfl, fun w' hSw => Or.inl ⟨w', ?_, hSw⟩⟩) ?_
        · go_simp
        simp only [List.set_cons_succ, List.set_cons_zero]
        refine takeG (i := 23) (v := .bool false) rfl rfl (by kernel_rfl) (by kernel_rfl) (by kernel_rfl) (by kernel_rfl) (fun _ _ _ h => h) (Or.inl ⟨by kernel_rfl, fun w' hSw => Or.inl ⟨w', ?_, hSw⟩⟩) ?_
        · go_simp
        simp only [List.set_cons_succ, List.set_cons_zero]
        refine takeG (i := 24) (v := .bool false) rfl rfl (by kernel_rfl) (by kernel_rfl) (by kernel_rfl) (by kernel_rfl) (fun _ _ _ h => h) (Or.inl ⟨by kernel_rfl, fun w' hSw => Or.inl ⟨w', ?_, hSw⟩⟩) ?_
        · go_simp
        simp only [List.set_cons_succ, List.set_cons_zero]
        refine takeG (i := 25) (v := .pointer (some ⟨g, 11, none⟩)) rfl rfl (by kernel_rfl) (by kernel_rfl) (by kernel_rfl) (by kernel_rfl) (fun _ _ _ h => h) (Or.inl ⟨by kernel_rfl, fun w' hSw => Or.inl ⟨w', ?_, hSw⟩⟩) ?_
        · go_simp
        simp only [List.set_cons_succ, List.set_cons_zero]
        refine takeG (i := 26) (v := .slice b1 k d1) rfl rfl (by kernel_rfl) (by kernel_rfl) (by kernel_rfl) (by kernel_rfl) (fun _ _ _ h => h) (Or.inl ⟨by kernel_rfl, fun w' hSw => Or.inl ⟨w', ?_, hSw⟩⟩) ?_
        · have hl := hxc.out w' hSw; go_simp
        simp only [List.set_cons_succ, List.set_cons_zero]
        refine takeG (i := 27) (v := .int .i64 (k : Int)) rfl rfl (by kernel_rfl) (by kernel_rfl) (by kernel_rfl) (by kernel_rfl) (fun _ _ _ h => h) (Or.inl ⟨by kernel_rfl, fun w' hSw => Or.inl ⟨w', ?_, hSw⟩⟩) ?_
        · go_simp
        simp only [List.set_cons_succ, List.set_cons_zero]
        refine takeG (i := 28) (v := .pointer (some ⟨gs, 12, none⟩)) rfl rfl (by kernel_rfl) (by kernel_rfl) (by kernel_rfl) (by kernel_rfl) (fun _ _ _ h => h) (Or.inl ⟨by kernel_rfl, fun w' hSw => Or.inl ⟨w', ?_, hSw⟩⟩) ?_
        · go_simp
        simp only [List.set_cons_succ, List.set_cons_zero]
        refine takeG (i := 29) (v := .slice (some ⟨g2, 0, none⟩) k k) rfl rfl (by kernel_rfl) (by kernel_rfl) (by kernel_rfl) (by kernel_rfl) (fun _ _ _ h => h) (Or.inl ⟨by kernel_rfl, fun w' hSw => Or.inl ⟨w', ?_, hSw⟩⟩) ?_
        · have hl := hxc.out w' hSw; go_simp
        simp only [List.set_cons_succ, List.set_cons_zero]
        refine takeG (i := 30) (v := .int .i64 (k : Int)) rfl rfl (by kernel_rfl) (by kernel_rfl) (by kernel_rfl) (by kernel_rfl) (fun _ _ _ h => h) (Or.inl ⟨by kernel_rfl, fun w' hSw => Or.inl ⟨w', ?_, hSw⟩⟩) ?_
        · go_simp
        simp only [List.set_cons_succ, List.set_cons_zero]
        refine takeG (i := 31) (v := .bool false) rfl rfl (by kernel_rfl) (by kernel_rfl) (by kernel_rfl) (by kernel_rfl) (fun _ _ _ h => h) (Or.inl ⟨by kernel_rfl, fun w' hSw => Or.inl ⟨w', ?_, hSw⟩⟩) ?_
        · go_simp
        simp only [List.set_cons_succ, List.set_cons_zero]
        refine takeG (i := 32) (v := .bool false) rfl rfl (by kernel_rfl) (by kernel_rfl) (by kernel_rfl) (by kernel_rfl) (fun _ _ _ h => h) (Or.inl ⟨by kernel_rfl, fun w' hSw => Or.inl ⟨w', ?_, hSw⟩⟩) ?_
        · go_simp
        simp only [List.set_cons_succ, List.set_cons_zero]
        refine doneG (by kernel_rfl) fun w' hSw => ?_
        clear hneq
        have hbl := hSw
        have HBc : Hid (Below wc.heap.size wc w') := hide hbl
        have hl := hxc.out _ hbl
        clear hSw hbl hsc hjc
        go_wp2
        go_loopw [126] (fun i wz => ∃ m : Nat, m ≤ k ∧ i = .int .i64 m ∧ Hid (Below wc.heap.size wc wz)) (fun i _ => k - (intOf i).toNat)
        case atStart => exact ⟨0, Nat.zero_le _, rfl, HBc⟩
        case round =>
          clear hl HBc
          obtain ⟨m, hm, rfl, hI⟩ := hrel
          have hl := hxc.out _ hI.out
          by_cases hlt : m < k
          · obtain ⟨p1, o1, rfl, hp1, hc1⟩ := (Q1.out.below hI.out).cell m hlt
            obtain ⟨p2, o2, rfl, hp2, hc2⟩ := (Q2.out.below hI.out).cell m hlt
            obtain ⟨p3, o3, e3, hp3, hc3⟩ := (HA2.out.below hI.out).cell m hlt
            cases e3
            obtain ⟨x, hxv⟩ : ∃ x, Hid (pu.getD m false = x) := ⟨_, rfl⟩
            rw [hxv.out] at hc1 hc3
            have hrf : (List.replicate k false).getD m false = false := by simp [List.getD_eq_getElem?_getD, hlt]
            rw [hrf] at hc2
            have hxx : (x != x) = false := by simp
            clear hrf
            rw [Nat.zero_add] at hc3
            have hcs : Hid (∀ w', Below wr.heap.size wr w' → w'.cell? ⟨g, 11, none⟩ = some (.slice (some ⟨p1, o1, none⟩) k d1) ∧ w'.cell? ⟨g, 12, none⟩ = some (.slice (some ⟨p2, o2, none⟩) k d2) ∧ w'.cell? ⟨gs, 12, none⟩ = some (.slice (some ⟨g2, 0, none⟩) k k) ∧ w'.cell? ⟨p1, o1 + m, none⟩ = some (.bool x) ∧ w'.cell? ⟨p2, o2 + m, none⟩ = some (.bool false) ∧ w'.cell? ⟨g2, m, none⟩ = some (.bool x)) := fun w' h => by
              have L := hxc.out _ (hI.out.trans (h.mono hI.out.size))
              exact ⟨L.2.2.2.2.2.2.2.1, L.2.2.2.2.2.2.2.2, L.2.2.2.2.2.1, (h.cell (p := ⟨p1, o1 + m, none⟩) hp1).trans hc1, (h.cell (p := ⟨p2, o2 + m, none⟩) hp2).trans hc2, (h.cell (p := ⟨g2, m, none⟩) hp3).trans hc3⟩
            clear hl
            go_wp2
            refine startG (fun w' => Below wr.heap.size wr w') 18 (by kernel_rfl) (Below.refl _ _).drew ?_
            refine takeG (i := 0) (v := .pointer (some ⟨g, 11, none⟩)) rfl rfl (by kernel_rfl) (by kernel_rfl) (by kernel_rfl) (by kernel_rfl) (fun _ _ _ h => h) (Or.inl ⟨by kernel_rfl, fun w' hSw => Or.inl ⟨w', ?_, hSw⟩⟩) ?_
            · go_simp
            simp only [List.set_cons_succ, List.set_cons_zero]
            refine takeG (i := 1) (v := .slice (some ⟨p1, o1, none⟩) k d1) rfl rfl (by kernel_rfl) (by kernel_rfl) (by kernel_rfl) (by kernel_rfl) (fun _ _ _ h => h) (Or.inl ⟨by kernel_rfl, fun w' hSw => Or.inl ⟨w', ?_, hSw⟩⟩) ?_
            · have hl := hcs.out w' hSw; go_simp
            simp only [List.set_cons_succ, List.set_cons_zero]
            refine takeG (i := 2) (v := .int .i64 (m : Int)) rfl rfl (by kernel_rfl) (by kernel_rfl) (by kernel_rfl) (by kernel_rfl) (fun _ _ _ h => h) (Or.inl ⟨by kernel_rfl, fun w' hSw => Or.inl ⟨w', ?_, hSw⟩⟩) ?_
            · go_simp
            simp only [List.set_cons_succ, List.set_cons_zero]
            refine takeG (i := 3) (v := .pointer (some ⟨p1, o1 + m, none⟩)) rfl rfl (by kernel_rfl) (by kernel_rfl) (by kernel_rfl) (by kernel_rfl) (fun _ _ _ h => h) (Or.inl ⟨by kernel_rfl, fun w' hSw => Or.inl ⟨w', ?_, hSw⟩⟩) ?_
            · go_simp
            simp only [List.set_cons_succ, List.set_cons_zero]
            refine takeG (i := 4) (v := .bool x) rfl rfl (by kernel_rfl) (by kernel_rfl) (by kernel_rfl) (by kernel_rfl) (fun _ _ _ h => h) (Or.inl ⟨by kernel_rfl, fun w' hSw => Or.inl ⟨w', ?_, hSw⟩⟩) ?_
            · have hl := hcs.out w' hSw; go_simp
            simp only [List.set_cons_succ, List.set_cons_zero]
            refine takeG (i := 5) (v := .pointer (some ⟨gs, 12, none⟩)) rfl rfl (by kernel_rfl) (by kernel_rfl) (by kernel_rfl) (by kernel_rfl) (fun _ _ _ h => h) (Or.inl ⟨by kernel_rfl, fun w' hSw => Or.inl ⟨w', ?_, hSw⟩⟩) ?_
            · go_simp
            simp only [List.set_cons_succ, List.set_cons_zero]
            refine takeG (i := 6) (v := .slice (some ⟨g2, 0, none⟩) k k) rfl rfl (by kernel_rfl) (by kernel_rfl) (by kernel_rfl) (by kernel_rfl) (fun _ _ _ h => h) (Or.inl ⟨by kernel_rfl, fun w' hSw => Or.inl ⟨w', ?_, hSw⟩⟩) ?_
            · have hl := hcs.out w' hSw; go_simp
            simp only [List.set_cons_succ, List.set_cons_zero]
            refine takeG (i := 7) (v := .int .i64 (m : Int)) rfl rfl (by kernel_rfl) (by kernel_rfl) (by kernel_rfl) (by kernel_rfl) (fun _ _ _ h => h) (Or.inl ⟨by kernel_rfl, fun w' hSw => Or.inl ⟨w', ?_, hSw⟩⟩) ?_
            · go_simp
            simp only [List.set_cons_succ, List.set_cons_zero]
            refine takeG (i := 8) (v := .pointer (some ⟨g2, m, none⟩)) rfl rfl (by kernel_rfl) (by kernel_rfl) (by kernel_rfl) (by kernel_rfl) (fun _ _ _ h => h) (Or.inl ⟨by kernel_rfl, fun w' hSw => Or.inl ⟨w', ?_, hSw⟩⟩) ?_
            · go_simp
            simp only [List.set_cons_succ, List.set_cons_zero]
            refine takeG (i := 9) (v := .bool x) rfl rfl (by kernel_rfl) (by kernel_rfl) (by kernel_rfl) (by kernel_rfl) (fun _ _ _ h => h) (Or.inl ⟨by kernel_rfl, fun w' hSw => Or.inl ⟨w', ?_, hSw⟩⟩) ?_
            · have hl := hcs.out w' hSw; go_simp
            simp only [List.set_cons_succ, List.set_cons_zero]
            refine takeG (i := 10) (v := .bool false) rfl rfl (by kernel_rfl) (by kernel_rfl) (by kernel_rfl) (by kernel_rfl) (fun _ _ _ h => h) (Or.inl ⟨by kernel_rfl, fun w' hSw => Or.inl ⟨w', ?_, hSw⟩⟩) ?_
            · go_simp
            simp only [List.set_cons_succ, List.set_cons_zero]
            refine takeG (i := 11) (v := .bool false) rfl rfl (by kernel_rfl) (by kernel_rfl) (by kernel_rfl) (by kernel_rfl) (fun _ _ _ h => h) (Or.inl ⟨by kernel_rfl, fun w' hSw => Or.inl ⟨w', ?_, hSw⟩⟩) ?_
            · go_simp
            simp only [List.set_cons_succ, List.set_cons_zero]
            refine takeG (i := 12) (v := .pointer (some ⟨g, 12, none⟩)) rfl rfl (by kernel_rfl) (by kernel_rfl) (by kernel_rfl) (by kernel_rfl) (fun _ _ _ h => h) (Or.inl ⟨by kernel_rfl, fun w' hSw => Or.inl ⟨w', ?_, hSw⟩⟩) ?_
            · go_simp
            simp only [List.set_cons_succ, List.set_cons_zero]
            refine takeG (i := 13) (v := .slice (some ⟨p2, o2, none⟩) k d2) rfl rfl (by kernel_rfl) (by kernel_rfl) (by kernel_rfl) (by kernel_rfl) (fun _ _ _ h => h) (Or.inl ⟨by kernel_rfl, fun w' hSw => Or.inl ⟨w', ?_, hSw⟩⟩) ?_
            · have hl := hcs.out w' hSw; go_simp
            simp only [List.set_cons_succ, List.set_cons_zero]
            refine takeG (i := 14) (v := .int .i64 (m : Int)) rfl rfl (by kernel_rfl) (by kernel_rfl) (by kernel_rfl) (by kernel_rfl) (fun _ _ _ h => h) (Or.inl ⟨by kernel_rfl, fun w' hSw => Or.inl ⟨w', ?_, hSw⟩⟩) ?_
            · go_simp
            simp only [List.set_cons_succ, List.set_cons_zero]
            refine takeG (i := 15) (v := .pointer (some ⟨p2, o2 + m, none⟩)) rfl rfl (by kernel_rfl) (by kernel_rfl) (by kernel_rfl) (by kernel_rfl) (fun _ _ _ h => h) (Or.inl ⟨by kernel_rfl, fun w' hSw => Or.inl ⟨w', ?_, hSw⟩⟩) ?_
            · go_simp
            simp only [List.set_cons_succ, List.set_cons_zero]
            refine takeG (i := 16) (v := .bool false) rfl rfl (by kernel_rfl) (by kernel_rfl) (by kernel_rfl) (by kernel_rfl) (fun _ _ _ h => h) (Or.inl ⟨by kernel_rfl, fun w' hSw => Or.inl ⟨w', ?_, hSw⟩⟩) ?_
            · have hl := hcs.out w' hSw; go_simp
            simp only [List.set_cons_succ, List.set_cons_zero]
            refine takeG (i := 17) (v := .bool false) rfl rfl (by kernel_rfl) (by kernel_rfl) (by kernel_rfl) (by kernel_rfl) (fun _ _ _ h => h) (Or.inl ⟨by kernel_rfl, fun w' hSw => Or.inl ⟨w', ?_, hSw⟩⟩) ?_
            · go_simp
            simp only [List.set_cons_succ, List.set_cons_zero]
            refine doneG (by kernel_rfl) fun w' hSw => ?_
            have HI2 := hide (hI.out.trans (Below.mono hSw hI.out.size))
            clear hI hSw hcs
            go_wp2
            go_roundw
            case rel => exact ⟨m + 1, by omega, by go_num, HI2⟩
            case measure => simp [intOf]; omega
          · have hmm : m = k := by omega
            subst hmm
            have HNf := hide (HNc.out.trans (hI.out.mono HNc.out.size))
            clear hI
            go_wp2
            go_ret
            exact ⟨rfl, HNf.out⟩

set_option maxRecDepth 100000 in
theorem lifted (os : Os) (started : os.Started) (H : Type) (enc : TypeId × Value → H) :
    ReturnsInHanded {} Try.checked os 8 .any (Rows.ledgerPullSpec.pre6 enc Try.prog Try.f8 Rows.ledgerPullRow.domain false) (Rows.ledgerPullSpec.post enc Try.prog Try.f8 false true false false) := by
  refine returnsInHanded_of_change (C := Try.checked) own started (by kernel_rfl) Try.func8
    (ChangeSpec.witness6 (enc := enc) (C := Try.checked) false ⟨#[], #[.agg #[.slice none 0 0, .int .i64 0, .int .i64 0], .int .u8 0, .slice none 0 0, .slice none 0 0, .int .u8 0], []⟩ 8 (by kernel_rfl) (by kernel_rfl) (by kernel_rfl) (by kernel_rfl)) ?_
  intro W base args ds gs before hval0 hW hcnd _
  have hval : ∀ (j : Nat) t v, Try.f8.params[j]? = some t → args[j]? = some v → Value.okWide Try.prog W .any base t v := hval0
  have hW' := hW
  obtain ⟨p, q, hA0, hV, rfl, hfz, hnd⟩ := hW
  have hA : DataW.TrodAll enc Try.prog W 0 (fun _ => true) true Try.f8.params.toList args.toList ds p := hA0
  rw [Try.params8] at hA hval
  obtain ⟨v0, vs0, d0, ds0, p0, q0, hargs, rfl, rfl, h0, r0⟩ := trodAll_cons hA
  obtain ⟨v1, vs1, d1, ds1, p1, q1, rfl, rfl, rfl, h1, r1⟩ := trodAll_cons r0
  obtain ⟨v2, vs2, d2, ds2, p2, q2, rfl, rfl, rfl, h2, r2⟩ := trodAll_cons r1
  obtain ⟨v3, vs3, d3, ds3, p3, q3, rfl, rfl, rfl, h3, r3⟩ := trodAll_cons r2
  obtain ⟨v4, vs4, d4, ds4, p4, q4, rfl, rfl, rfl, h4, r4⟩ := trodAll_cons r3
  obtain ⟨rfl, rfl, rfl⟩ := trodAll_nil r4
  obtain rfl : args = #[v0, v1, v2, v3, v4] := by cases args; simp_all
  obtain ⟨rfl, rfl⟩ := trodVars_none hV
  obtain ⟨cs0, rfl, sz0⟩ := okWide_struct Try.underlying24 (hval 0 24 v0 rfl rfl)
  rw [cells24] at sz0
  obtain ⟨l0⟩ := cs0
  obtain ⟨c0_0, c0_1, c0_2, rfl⟩ := list3 (show l0.length = 3 from sz0)
  clear sz0
  have k0 := h0
  have lt0 : ∀ x ∈ p0, x.block < W.heap.size := by obtain ⟨m, hm⟩ := k0; exact DataW.trod_lt m _ _ _ hm
  obtain ⟨fuel0, hf0⟩ := h0
  simp only [Value.cells] at hf0
  obtain ⟨xs0_0t24, n0_0t24, _, hx0_0t24, _, hlen0_0t24, hf0_0t24⟩ := DataW.trod_struct Try.underlying24 hf0
  obtain ⟨y0_0t24_0, y0_0t24_1, y0_0t24_2, rfl⟩ := list3 (show xs0_0t24.length = 3 from hlen0_0t24)
  have hy0_0t24_0 : DataW.trod enc Try.prog W 0 (fun _ => true) true n0_0t24 22 [c0_0] = some y0_0t24_0 := by simpa [Value.cells, cells3, cells4, cells5, cells22, cells24, cells32, cells37] using hf0_0t24 0 _ rfl
  have hy0_0t24_1 : DataW.trod enc Try.prog W 0 (fun _ => true) true n0_0t24 3 [c0_1] = some y0_0t24_1 := by simpa [Value.cells, cells3, cells4, cells5, cells22, cells24, cells32, cells37] using hf0_0t24 1 _ rfl
  have hy0_0t24_2 : DataW.trod enc Try.prog W 0 (fun _ => true) true n0_0t24 3 [c0_2] = some y0_0t24_2 := by simpa [Value.cells, cells3, cells4, cells5, cells22, cells24, cells32, cells37] using hf0_0t24 2 _ rfl
  obtain ⟨a0_0, len0_0, cap0_0, z0_0, e0_0, w0_0⟩ : ∃ a len cap zs, c0_0 = .slice a len cap ∧ IsRow .u64 W a len cap zs := by
    rcases open_ints Try.underlying22 Try.underlying32 (by kernel_rfl) hy0_0t24_0 with ⟨hcs, _⟩ | ⟨x, l, c, zs, hcs, _, hl, hm, hz, _, hcell, hwz⟩
    · simp at hcs
      exact ⟨none, 0, 0, [], hcs, .inl ⟨rfl, rfl, rfl, rfl⟩⟩
    · simp at hcs
      exact ⟨_, _, _, zs, hcs, .inr ⟨_, rfl, hl, hm, by simpa using hz, hcell, hwz⟩⟩
  subst e0_0
  obtain ⟨a0_1, e0_1, x0_1, w0_1⟩ := DataW.trod_int Try.underlying3 hy0_0t24_1
  simp at e0_1
  subst e0_1
  obtain ⟨a0_2, e0_2, x0_2, w0_2⟩ := DataW.trod_int Try.underlying3 hy0_0t24_2
  simp at e0_2
  subst e0_2
  obtain ⟨a1, rfl, rfl, rfl, w1⟩ := open_int Try.underlying5 (hval 1 5 v1 rfl rfl) h1
  obtain ⟨a2, len2, cap2, rfl⟩ := okWide_slice Try.underlying37 (hval 2 37 v2 rfl rfl)
  have k2 := h2
  have lt2 : ∀ x ∈ p2, x.block < W.heap.size := by obtain ⟨m, hm⟩ := k2; exact DataW.trod_lt m _ _ _ hm
  obtain ⟨fuel2, hf2⟩ := h2
  simp only [Value.cells] at hf2
  obtain ⟨e2, w2⟩ := (Sh.read _).1 _ _ _ _ has37 hf2
  obtain ⟨a3, len3, cap3, rfl⟩ := okWide_slice Try.underlying37 (hval 3 37 v3 rfl rfl)
  have k3 := h3
  have lt3 : ∀ x ∈ p3, x.block < W.heap.size := by obtain ⟨m, hm⟩ := k3; exact DataW.trod_lt m _ _ _ hm
  obtain ⟨fuel3, hf3⟩ := h3
  simp only [Value.cells] at hf3
  obtain ⟨e3, w3⟩ := (Sh.read _).1 _ _ _ _ has37 hf3
  obtain ⟨a4, rfl, rfl, rfl, w4⟩ := open_int Try.underlying5 (hval 4 5 v4 rfl rfl) h4
  clear hA0 hval0
  refine (walk a0_0 len0_0 cap0_0 z0_0 a0_1 a0_2 a1 a2 len2 cap2 e2 a3 len3 cap3 e3 a4 W w0_0 w0_1 w0_2 w1 w2 w3 w4).mono fun e W' ⟨he, bel⟩ => ?_
  subst he
  exact ⟨_, rfl, _, _, _, [], _, [], hW', trodAll_mk1 (shut_bool Try.underlying4 _), (trodAll_cons_mk (Below.trod laidOut (by kernel_rfl) (of_decide_eq_true (by kernel_rfl)) k0 bel lt0) (trodAll_cons_mk (shut_int Try.underlying5 w1) (trodAll_cons_mk (Below.trod laidOut (by kernel_rfl) (of_decide_eq_true (by kernel_rfl)) k2 bel lt2) (trodAll_cons_mk (Below.trod laidOut (by kernel_rfl) (of_decide_eq_true (by kernel_rfl)) k3 bel lt3) (trodAll_cons_mk (shut_int Try.underlying5 w4) trodAll_mk0))))), rfl, bel.frame _, fun h => by cases h⟩

theorem over : Rows.ledgerPullRow.holds Try.pinned (OpenSpec.ofChange Rows.ledgerPullSpec) :=
  OpenClaim.holds_of_wide 8 Try.f8 rfl rfl rfl rfl rfl rfl rfl ⟨rfl, rfl, rfl, rfl, rfl⟩ rfl rfl rfl rfl rfl (by kernel_rfl) Try.func8 (by kernel_rfl)
    (of_decide_eq_true (by kernel_rfl)) (by unfold Func.isWrapper; first | (rw [if_pos (by decide +kernel)]; kernel_rfl) | (rw [if_neg (by decide +kernel)]; exact ⟨rfl, rfl⟩))
    (fun os started H enc _ => lifted os started H enc)

theorem proved : Rows.LedgerPullSaid := over
end Go.Proofs.Ytpkpjfmljgchbaa.ledgerPull

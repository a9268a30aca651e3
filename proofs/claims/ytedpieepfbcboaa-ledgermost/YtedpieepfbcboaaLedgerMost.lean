/-
  votes of enough for an epoch's checkpoint justify it when that ends, fewer do not (LedgerMost is true of every input).
-/
import Derived.Test.YtedpieepfbcboaaRows

import Derived.WalkKit

import Derived.Below

import Derived.ProofKit

import Derived.OpenShut

import Derived.ShutString

import Derived.ChangeOld

import Derived.Test.YtedpieepfbcboaaLAwake

import Derived.Test.YtedpieepfbcboaaLHelp2

import Derived.Test.YtedpieepfbcboaaLLaw

import Derived.Test.YtedpieepfbcboaaLMark

import Derived.Test.YtedpieepfbcboaaLFix

import Derived.Test.YtedpieepfbcboaaEpMath

import Derived.Test.YtedpieepfbcboaaHand

namespace Go.Proofs.Ytedpieepfbcboaa.ledgerMost

open Go.ChangeShapes Go.WideShapes Go.ChangeAt Go.RowKit

set_option linter.unusedVariables false

theorem own : ownKnob Try.prog.godebug = none := by kernel_rfl
theorem laidOut : laidOutB Try.prog = true := by kernel_rfl
theorem cells3 : Try.prog.cellsOf 3 = 1 := by kernel_rfl
theorem cells4 : Try.prog.cellsOf 4 = 1 := by kernel_rfl
theorem cells5 : Try.prog.cellsOf 5 = 1 := by kernel_rfl
theorem cells22 : Try.prog.cellsOf 22 = 1 := by kernel_rfl
theorem cells24 : Try.prog.cellsOf 24 = 3 := by kernel_rfl
theorem cells32 : Try.prog.cellsOf 32 = 1 := by kernel_rfl
theorem cells57 : Try.prog.cellsOf 57 = 1 := by kernel_rfl
theorem list3 {α : Type _} {l : List α} (h : l.length = 3) : ∃ x0 x1 x2, l = [x0, x1, x2] := by
  match l, h with
  | [x0, x1, x2], _ => exact ⟨x0, x1, x2, rfl⟩
theorem first_next (e : Int) (e1 r1 e2 r2 r : Int) : (JS.first r).next e false false e1 r1 e2 r2 = JS.first r := rfl
theorem pull_none (bs : List Int) (s : Int) (f : Int → Int) (r e : Int) (n : Nat) : pullJ bs s f ⟨JS.first r, e, List.replicate n false, List.replicate n false⟩ = JS.first r := by
  show endJ f s (JS.first r) e (en bs (List.replicate n false)) (en bs (List.replicate n false)) = _
  rw [en_none]
  unfold endJ
  split
  · rfl
  · exact first_next _ _ _ _ _ _
theorem adv_none (bs : List Int) (s : Int) (f : Int → Int) (r a : Int) (n : Nat) (hn : bs.length = n) : ∀ k : Nat, advK bs s f ⟨JS.first r, 0, List.replicate n false, List.replicate n false⟩ a k = ⟨JS.first r, if k = 0 then 0 else a + k, List.replicate n false, List.replicate n false⟩
  | 0 => rfl
  | k + 1 => by
    rw [advK_succ, adv_none bs s f r a n hn k]
    show (⟨pullJ bs s f ⟨JS.first r, _, List.replicate n false, List.replicate n false⟩, a + k + 1, List.replicate n false, List.replicate bs.length false⟩ : LS) = _
    rw [pull_none, hn, if_neg (show ¬ k + 1 = 0 by omega)]
    congr 1
    omega
theorem epo_mul (q s : Int) (hq : 0 ≤ q ∧ q ≤ 65535) (hs : 1 ≤ s ∧ s ≤ 64) : epo (wrap64 (q * s)) s = q := by
  have h1 : 0 ≤ q * s := Int.mul_nonneg hq.1 (by omega)
  have h2 : q * s ≤ 65535 * 64 := Int.mul_le_mul hq.2 hs.2 (by omega) (by omega)
  have h3 : wrap64 (q * s) = q * s := by unfold wrap64; omega
  rw [h3]
  unfold epo lo0 lo1
  rw [if_neg (by omega), if_neg (by omega)]
  exact Int.mul_ediv_cancel _ (by omega)
theorem epo_small (t s : Int) (ht : 0 ≤ t) (hs : 1 ≤ s) : epo t s = t / s := by unfold epo lo0 lo1; rw [if_neg (by omega), if_neg (by omega)]
theorem adv_from (bs : List Int) (s : Int) (f : Int → Int) (S : LS) (t : Int) (he : 0 ≤ S.e ∧ S.e ≤ 65535) (hs : 1 ≤ s ∧ s ≤ 64) (ht : 0 ≤ t) (hd : t / s - S.e < 4096) : advS bs s f S t = advK bs s f S S.e (t / s - S.e).toNat := by
  unfold advS
  have h1 := epo_mul S.e s he hs
  have h2 := epo_small t s ht hs.1
  unfold ends
  rw [h1, h2, if_pos hd]
theorem adv_two (bs : List Int) (s : Int) (f : Int → Int) (S : LS) (a b : Int) (h0 : S.e = 0) (hs : 1 ≤ s ∧ s ≤ 64) (ha : 0 ≤ a ∧ a ≤ 255) (hb : 0 ≤ b ∧ b ≤ 255) : advS bs s f (advS bs s f S a) (a + b) = advS bs s f S (a + b) := by
  have q1 : 0 ≤ a / s ∧ a / s ≤ 255 := ⟨Int.ediv_nonneg ha.1 (by omega), Int.le_trans (Int.ediv_le_self _ ha.1) ha.2⟩
  have q2 : 0 ≤ (a + b) / s ∧ (a + b) / s ≤ 510 := ⟨Int.ediv_nonneg (by omega) (by omega), Int.le_trans (Int.ediv_le_self _ (by omega)) (by omega)⟩
  have q3 : a / s ≤ (a + b) / s := Int.ediv_le_ediv (by omega) (by omega)
  have e1 := adv_from bs s f S a (by omega) hs ha.1 (by omega)
  have e2 := adv_from bs s f S (a + b) (by omega) hs (by omega) (by omega)
  rw [h0, Int.sub_zero] at e1 e2
  have he : (advS bs s f S a).e = a / s := by
    rw [e1, advK_e]
    split
    · omega
    · omega
  have e3 := adv_from bs s f (advS bs s f S a) (a + b) (by omega) hs (by omega) (by omega)
  rw [e3, he, e1, e2]
  unfold advK
  rw [← List.foldl_append]
  congr 1
  have h := run_append 0 (a / s).toNat ((a + b) / s - a / s).toNat
  rw [show (0 : Int) + ((a / s).toNat : Int) = a / s by omega] at h
  rw [h]
  congr 1
  omega
theorem adv_zero (bs : List Int) (s : Int) (f : Int → Int) (S : LS) (h0 : S.e = 0) (hs : 1 ≤ s ∧ s ≤ 64) : advS bs s f S 0 = S := by
  rw [adv_from bs s f S 0 (by omega) hs (by omega) (by rw [h0]; simp), h0]
  simp [advK, run]
theorem adv_one (bs : List Int) (s : Int) (f : Int → Int) (S : LS) (hs : 1 ≤ s ∧ s ≤ 64) (he : 0 ≤ S.e ∧ S.e ≤ 100) : advS bs s f S ((S.e + 1) * s) = stepS bs s f S S.e := by
  have h1 : 0 ≤ (S.e + 1) * s := Int.mul_nonneg (by omega) (by omega)
  have h2 : (S.e + 1) * s / s = S.e + 1 := Int.mul_ediv_cancel _ (by omega)
  rw [adv_from bs s f S _ (by omega) hs h1 (by omega), h2, show (S.e + 1 - S.e).toNat = 1 by omega, advK_succ]
  simp [advK, run]
theorem stI_small (e s : Int) (he : 0 ≤ e ∧ e ≤ 3) (hs : 1 ≤ s ∧ s ≤ 64) : stI e s = e * s := by
  have h1 : 0 ≤ e * s := Int.mul_nonneg he.1 (by omega)
  have h2 : e * s ≤ 3 * 64 := Int.mul_le_mul he.2 hs.2 (by omega) (by omega)
  have h3 : lo0 e = e := if_neg (by omega)
  have h4 : lo1 s = s := if_neg (by omega)
  unfold stI
  rw [h3, h4]
  unfold wrap64
  omega
def whoK (P : Nat → Bool) (k : Nat) : List Int := ((List.range k).filter P).map fun (i : Nat) => (i : Int)
theorem whoK_in (P : Nat → Bool) (k : Nat) (h : P k = true) : whoK P (k + 1) = whoK P k ++ [(k : Int)] := by
  unfold whoK
  rw [List.range_succ, List.filter_append, List.map_append, List.filter_cons_of_pos h]
  rfl
theorem whoK_out (P : Nat → Bool) (k : Nat) (h : P k = false) : whoK P (k + 1) = whoK P k := by
  unfold whoK
  rw [List.range_succ, List.filter_append, List.map_append, List.filter_cons_of_neg (by rw [h]; simp)]
  simp
theorem whoK_len (P : Nat → Bool) (k : Nat) : (whoK P k).length ≤ k := by
  unfold whoK
  rw [List.length_map]
  have := List.length_filter_le P (List.range k)
  simpa using this
theorem whoK_lt (P : Nat → Bool) (k : Nat) : (whoK P k).Pairwise (· < ·) := by
  unfold whoK
  rw [List.pairwise_map]
  exact (List.pairwise_lt_range.filter P).imp fun h => by omega
theorem mem_whoK (P : Nat → Bool) (k : Nat) (x : Int) : x ∈ whoK P k ↔ ∃ i : Nat, i < k ∧ P i = true ∧ (i : Int) = x := by
  unfold whoK
  simp [List.mem_map, List.mem_filter, and_assoc]
theorem whoB_who (P : Nat → Bool) (n : Nat) : whoB (whoK P n) n = decide (0 < (whoK P n).length) := by
  by_cases h : 0 < (whoK P n).length
  · rw [decide_eq_true h, whoB_true]
    refine ⟨whoK_lt P n, fun x hx => ?_, h⟩
    obtain ⟨i, hi, _, rfl⟩ := (mem_whoK P n x).1 hx
    omega
  · rw [decide_eq_false h]
    cases hb : whoB (whoK P n) n
    · rfl
    · exact absurd ((whoB_true _ _).1 hb).2.2 h
theorem idx_mark (P : Nat → Bool) (n : Nat) : idx (mark (List.replicate n false) (whoK P n)) = whoK P n := by
  unfold idx
  rw [mark_len, List.length_replicate]
  show ((List.range n).filter _).map _ = ((List.range n).filter P).map _
  congr 1
  refine List.filter_congr fun i hi => ?_
  have hin : i < n := List.mem_range.1 hi
  have hg := mark_get i (whoK P n) (List.replicate n false) (fun x hx => by
    obtain ⟨j, hj, _, rfl⟩ := (mem_whoK P n x).1 hx
    rw [List.length_replicate]
    omega)
  rw [List.length_replicate, if_pos hin] at hg
  rw [List.getD_eq_getElem?_getD, hg, List.getD_eq_getElem?_getD, List.getElem?_replicate, if_pos hin]
  show (false || decide _) = P i
  rw [Bool.false_or]
  cases hp : P i
  · exact decide_eq_false fun h => by
      obtain ⟨j, _, hj, e⟩ := (mem_whoK P n _).1 h
      have : j = i := by omega
      subst this
      rw [hp] at hj
      cases hj
  · exact decide_eq_true ((mem_whoK P n _).2 ⟨i, hin, hp, rfl⟩)
def whoP (x : Int) (k : Nat) : Bool := decide (k < 16) && (bits BinOp.and IntKind.u16 x (IntKind.u16.wrap (2 ^ k)) != 0)
theorem most_adv (bs : List Int) (s : Int) (f : Int → Int) (n : Nat) (hn : bs.length = n) (p : Int) (hs : 1 ≤ s ∧ s ≤ 64) : advS bs s f ⟨JS.first p, 0, List.replicate n false, List.replicate n false⟩ (2 * s) = ⟨JS.first p, 2, List.replicate n false, List.replicate n false⟩ := by
  have h2 : 2 * s / s = 2 := Int.mul_ediv_cancel _ (by omega)
  rw [adv_from bs s f _ _ (⟨Int.le_refl _, show (0 : Int) ≤ 65535 from by decide⟩) hs (by omega) (by rw [h2]; show (2 : Int) - 0 < 4096; omega), h2]
  show advK bs s f _ 0 2 = _
  rw [adv_none bs s f p 0 n hn 2]
  rfl
theorem most_cnt (n : Nat) (s : Int) (f : Int → Int) (p h : Int) (who : List Int) (hs : 1 ≤ s ∧ s ≤ 64) (hw : whoB who n = decide (0 < who.length)) (f2 : Int) (hf2 : f (stI 2 s) = f2) :
    cntB n s f ⟨JS.first p, 2, List.replicate n false, List.replicate n false⟩ ⟨2 * s, h, 0, p, 2, f2, who⟩ = decide (0 < who.length) ∧ cntS n s f ⟨JS.first p, 2, List.replicate n false, List.replicate n false⟩ ⟨2 * s, h, 0, p, 2, f2, who⟩ = ⟨JS.first p, 2, List.replicate n false, mark (List.replicate n false) who⟩ := by
  have e2 : epo (2 * s) s = 2 := by rw [epo_small _ _ (by omega) hs.1]; exact Int.mul_ediv_cancel _ (by omega)
  have h1 : isNow ⟨JS.first p, 2, List.replicate n false, List.replicate n false⟩ ⟨2 * s, h, 0, p, 2, f2, who⟩ = true := by
    show (decide ((2 : Int) = 2) && decide ((0 : Int) = 0 ∧ p = p)) = true
    simp
  have hb : cntB n s f ⟨JS.first p, 2, List.replicate n false, List.replicate n false⟩ ⟨2 * s, h, 0, p, 2, f2, who⟩ = decide (0 < who.length) := by
    unfold cntB VV.right onPoint
    rw [h1]
    show (whoB who n && timesB (2 * s) 0 2 s && decide (2 = lo0 2 ∧ f2 = f (stI 2 s)) && _) = _
    rw [hw, show timesB (2 * s) 0 2 s = true from decide_eq_true ⟨by omega, by omega, by omega, e2.symm⟩, decide_eq_true (And.intro (show (2 : Int) = lo0 2 from rfl) hf2.symm)]
    simp
  refine ⟨hb, ?_⟩
  unfold cntS
  rw [hb]
  by_cases h0 : 0 < who.length
  · rw [if_pos (decide_eq_true h0), if_pos h1]
  · rw [if_neg (show ¬ (decide (0 < who.length) = true) by rw [decide_eq_false h0]; exact Bool.false_ne_true)]
    have : who = [] := List.eq_nil_of_length_eq_zero (by omega)
    subst this
    rfl
theorem most_end (bs : List Int) (s : Int) (f : Int → Int) (n : Nat) (hn : bs.length = n) (p : Int) (vs : List Bool) (hs : 1 ≤ s ∧ s ≤ 64) :
    advS bs s f ⟨JS.first p, 2, List.replicate n false, vs⟩ (3 * s) = ⟨(JS.first p).next 2 false (en bs vs) (lo0 (wrap64 (2 - 1))) (f (stI (wrap64 (2 - 1)) s)) (lo0 2) (f (stI 2 s)), 3, vs, List.replicate n false⟩ := by
  have h := adv_one bs s f ⟨JS.first p, 2, List.replicate n false, vs⟩ hs ⟨show (0 : Int) ≤ 2 from by decide, show (2 : Int) ≤ 100 from by decide⟩
  rw [show (3 : Int) * s = ((⟨JS.first p, 2, List.replicate n false, vs⟩ : LS).e + 1) * s from rfl, h]
  show (⟨pullJ bs s f ⟨JS.first p, 2, List.replicate n false, vs⟩, 2 + 1, vs, List.replicate bs.length false⟩ : LS) = _
  rw [hn, show pullJ bs s f ⟨JS.first p, 2, List.replicate n false, vs⟩ = endJ f s (JS.first p) 2 (en bs (List.replicate n false)) (en bs vs) from rfl, en_none]
  rfl

set_option maxRecDepth 100000 in
set_option maxHeartbeats 16000000 in
set_option maxRecDepth 100000 in
theorem walk (a0_0 : Option Addr) (len0_0 cap0_0 : Nat) (z0_0 : List Int) (a0_1 : Int) (a0_2 : Int) (a1 : Int) (a2 : Int) (w : World) (w0_0 : IsRow .u64 w a0_0 len0_0 cap0_0 z0_0) (w0_1 : (Lit.int .i64 a0_1).wf = true) (w0_2 : (Lit.int .i64 a0_2).wf = true) (w1 : (Lit.int .u8 a1).wf = true) (w2 : (Lit.int .u16 a2).wf = true) :
    Calls Try.prog 5 #[.agg #[.slice a0_0 len0_0 cap0_0, .int .i64 a0_1, .int .i64 a0_2], .int .u8 a1, .int .u16 a2] w fun e w' => e = .returned (.bool true) ∧ Below w.heap.size w w' := by
  obtain ⟨i0, hi, hz0, hz1, hz2⟩ := info_parts infoI
  have hcb := wf_u8 w1
  have hwb := wf_u16 w2
  clear w1 w2
  have hB0 := w0_0.row
  have hu0 := w0_0.u64
  have hs0 := wf_i64 w0_1
  have hb0 := wf_i64 w0_2
  clear w0_0 w0_1 w0_2
  generalize z0_0.take len0_0 = bs0 at *
  have HB0 := hide (hB0.alloc (cfg a0_0 len0_0 cap0_0 a0_1 a0_2))
  have HU0 := hide hu0
  have HC0 := hide (OAt.new w (cfg a0_0 len0_0 cap0_0 a0_1 a0_2))
  have HN0 := hide ((Below.refl _ w).alloc (Nat.le_refl _) (cfg a0_0 len0_0 cap0_0 a0_1 a0_2))
  clear hB0 hu0
  have hSb := mkS_b a0_1
  have hnb := mkBs_len bs0
  have hub := mkBs_b bs0
  obtain ⟨S, hS⟩ : ∃ x, Hid (mkS a0_1 = x) := ⟨_, rfl⟩
  obtain ⟨B, hB⟩ : ∃ x, Hid (mkB a0_2 = x) := ⟨_, rfl⟩
  obtain ⟨bs, hbs⟩ : ∃ x, Hid (mkBs bs0 = x) := ⟨_, rfl⟩
  rw [hS.out] at hSb
  rw [hbs.out] at hnb hub
  obtain ⟨n, hn⟩ : ∃ x, bs.length = x := ⟨_, rfl⟩
  rw [hn] at hnb
  have hn0 : 0 < n ∧ n ≤ 4096 := by omega
  have hSi : I64s S := by unfold I64s; omega
  have hu : Hid (∀ z ∈ bs, 0 ≤ z ∧ z ≤ 18446744073709551615) := hide (fun z hz => by have := hub z hz; omega)
  clear hub
  go_enter Try.func5, Try.ntmps5
  go_wp2_with fail
  refine (awake_any _).mono ?_
  rintro e w1 ⟨rfl, hbel⟩
  have HB1 := hide (HB0.out.below hbel)
  have HC1 := hide (HC0.out.below hbel)
  have HN1 := hide (HN0.out.trans (hbel.mono (by simp)))
  clear HB0 HC0 HN0 hbel
  have p0 := HC1.out.cell 0
  have p1 := HC1.out.cell 1
  have p2 := HC1.out.cell 2
  simp only [List.getElem?_toArray, List.getElem?_cons_zero, List.getElem?_cons_succ] at p0 p1 p2
  go_wp2_with fail
  refine (make_any bs0 _ _ _ _ _ _ HB1.out HU0.out hs0 hb0).mono ?_
  rintro e w2 ⟨ao, d, rfl, hR, hbel⟩
  rw [hS.out, hB.out, hbs.out, hn]
  rw [hbs.out, hn] at hR
  have HR := hide (hR.alloc (cfg ao n d S B))
  have HRF := hide (hR.far hn0.1)
  have HX := hide (OAt.new w2 (cfg ao n d S B))
  have HN := hide ((HN1.out.trans (hbel.mono HN1.out.size)).alloc (by have := HN1.out.size; have := hbel.size; omega) (cfg ao n d S B))
  have hcg : Hid (w.heap.size < w2.heap.size) := Nat.lt_of_lt_of_le HC1.out.lt hbel.size
  clear HB1 HC1 HN1 hbel p0 p1 p2 hR
  go_upto_region 4 with fail
  generalize hW : w2.alloc (cfg ao n d S B) = W at HR HX HN 
  have hWs : W.heap.size = w2.heap.size + 1 := by rw [← hW]; simp
  clear hW
  obtain ⟨hc, hhc⟩ : ∃ x, Hid (w2.heap.size = x) := ⟨_, rfl⟩
  rw [hhc.out] at HX HRF hWs hcg ⊢
  have hxs : Hid (∀ w', Below W.heap.size W w' → w'.cell? ⟨hc, 0, none⟩ = some (.slice ao n d) ∧ w'.cell? ⟨hc, 1, none⟩ = some (.int .i64 S) ∧ w'.cell? ⟨hc, 2, none⟩ = some (.int .i64 B)) := fun w' h => by
    have V := HX.out.below h
    exact ⟨V.cell 0, V.cell 1, V.cell 2⟩
  go_wp2_with fail
  refine (chain_any a1 hcb W).mono ?_
  rintro ek W1 ⟨cap, rfl, hch, hbel⟩
  have HCH := hide hch
  replace HX := hide (HX.out.below hbel)
  replace HR := hide (HR.out.below hbel)
  replace HN := hide (HN.out.trans (hbel.mono HN.out.size))
  have hW1 := hbel.size
  have q0 := HX.out.cell 0
  have q1 := HX.out.cell 1
  have q2 := HX.out.cell 2
  simp only [List.getElem?_toArray, List.getElem?_cons_zero, List.getElem?_cons_succ] at q0 q1 q2
  clear hch hbel hxs
  have hen : Enters 36 := enters_law
  unfold Enters at hen
  obtain ⟨f, hf⟩ : ∃ x, Hid (chf a1 = x) := ⟨_, rfl⟩
  rw [hf.out] at HCH
  have e0 : Hid (wrap64 (lo0 0 * lo1 S) = stI 0 S) := hide rfl
  go_wp2_with (go_at_call 20; refine (start_any _ _ _ (by omega) hSi).mono ?_; rintro e w' ⟨rfl, hw⟩; obtain rfl : _ = w' := hw.symm)
  refine (HCH.out _ _ (Below.refl _ _) (stI_b 0 S)).mono ?_
  rintro x w3 ⟨hx, hw1⟩
  obtain rfl : _ = w3 := hw1.symm
  obtain ⟨p, hp⟩ : ∃ y, Hid (f (stI 0 S) = y) := ⟨_, rfl⟩
  rw [hp.out] at hx
  subst hx
  clear hen e0 hp
  go_upto_region 6 with fail
  have hxs : Hid (∀ w', Below W1.heap.size W1 w' → w'.cell? ⟨hc, 0, none⟩ = some (.slice ao n d) ∧ w'.cell? ⟨hc, 1, none⟩ = some (.int .i64 S) ∧ w'.cell? ⟨hc, 2, none⟩ = some (.int .i64 B)) := fun w' h => by
    have V := HX.out.below h
    exact ⟨V.cell 0, V.cell 1, V.cell 2⟩
  have hst2 : Hid (wrap64 (lo0 2 * lo1 S) = 2 * S) := stI_small 2 S (by omega) hSb
  have hsaid := hide (most_adv bs S f n hn p hSb)
  have h2i : I64s (2 * S) := by unfold I64s; omega
  clear q0 q1 q2
  go_cut [10] from 28 to 36 (fun x wx => ∃ g b1 d1 b2 d2, x = Value.pointer (some ⟨g, 0, none⟩) ∧ Hid (OAt wx g (lobj (JS.first p) 2 b1 n d1 b2 n d2) ∧ RowB wx b1 n d1 (List.replicate n false) ∧ RowB wx b2 n d2 (List.replicate n false) ∧ W1.heap.size ≤ g ∧ Below W1.heap.size W1 wx))
  case first =>
    have HB : Hid (Below W1.heap.size W1 W1.drew) := hide (Below.refl _ _).drew
    refine wp_region_noPanic ?_
    refine wp_region_held_drew (S := fun w' => Below W1.heap.size W1 w') (by kernel_rfl) HB.out (fun hHeld => ?_)
    replace HR := hide (HR.out.below HB.out)
    replace HCH := hide (HCH.out.below HB.out)
    generalize W1.drew = w0 at HB hHeld HR HCH ⊢
    refine take_set (i := 0) (v := .agg #[.slice ao n d, .int .i64 S, .int .i64 B]) rfl rfl (by kernel_rfl) (by kernel_rfl) (by kernel_rfl) (fun _ _ _ h => h) (Or.inl ⟨by kernel_rfl, fun w' hSw => ?_⟩) hHeld ?_
    · have hl := hxs.out w' hSw; go_simp
    simp only [List.set_cons_succ, List.set_cons_zero]
    refine take_set (i := 1) (v := .agg #[.slice ao n d, .int .i64 S, .int .i64 B]) rfl rfl (by kernel_rfl) (by kernel_rfl) (by kernel_rfl) (fun _ _ _ h => h) (Or.inl ⟨by kernel_rfl, fun w' hSw => ?_⟩) hHeld ?_
    · have hl := hxs.out w' hSw; go_simp
    simp only [List.set_cons_succ, List.set_cons_zero]
    refine take_set (i := 2) (v := .int .u64 p) rfl rfl (by kernel_rfl) (by kernel_rfl) (by kernel_rfl) (fun _ _ _ h => h) (Or.inl ⟨by kernel_rfl, fun w' hSw => ?_⟩) hHeld ?_
    · go_simp
    simp only [List.set_cons_succ, List.set_cons_zero]
    refine take_set (i := 4) (v := .pointer (some ⟨hc, 1, none⟩)) rfl rfl (by kernel_rfl) (by kernel_rfl) (by kernel_rfl) (fun _ _ _ h => h) (Or.inl ⟨by kernel_rfl, fun w' hSw => ?_⟩) hHeld ?_
    · go_simp
    simp only [List.set_cons_succ, List.set_cons_zero]
    refine take_set (i := 5) (v := .int .i64 S) rfl rfl (by kernel_rfl) (by kernel_rfl) (by kernel_rfl) (fun _ _ _ h => h) (Or.inl ⟨by kernel_rfl, fun w' hSw => ?_⟩) hHeld ?_
    · have hl := hxs.out w' hSw; go_simp
    simp only [List.set_cons_succ, List.set_cons_zero]
    refine take_set (i := 7) (v := chv 36 cap) rfl rfl (by kernel_rfl) (by kernel_rfl) (by kernel_rfl) (fun _ _ _ h => h) (Or.inl ⟨by kernel_rfl, fun w' hSw => ?_⟩) hHeld ?_
    · go_simp
    simp only [List.set_cons_succ, List.set_cons_zero]
    refine wpAnyH_ready (rs := [3, 9]) (by kernel_rfl) (by simp) ?_
    refine AllReadyH.cons (o := _) rfl (fun K hK => ?_) (AllReadyH.cons (o := _) rfl (fun K hK => ?_) (AllReadyH.nil))
    · go_simp
      refine (open_led ao n d S B p w0 hn0.2).mono ?_
      rintro eo wq1 ⟨g1, g2, rfl, o1, o2, l12, _, hbel⟩
      replace HR := hide (HR.out.below hbel)
      replace HCH := hide (HCH.out.below hbel)
      replace HB := hide (HB.out.trans (hbel.mono HB.out.size))
      have R1 := hide (RowB.obj (n := n) o1 (by simp) (by unfold maxLen; omega))
      have R2 := hide (RowB.obj (n := n) o2 (by simp) (by unfold maxLen; omega))
      have z1 : Hid (w0.heap.size ≤ wq1.heap.size) := hide hbel.size
      clear hbel o1 o2 l12
      refine hK.out _ _ (HB.out) (fun hHeld => ?_)
      clear hK K
      refine wpAnyH_ready (rs := [6, 9]) (by kernel_rfl) (by simp) ?_
      refine AllReadyH.cons (o := _) rfl (fun K hK => ?_) (AllReadyH.cons (o := _) rfl (fun K hK => ?_) (AllReadyH.nil))
      · go_simp
        refine (start_any 2 S wq1 (by omega) hSi).mono ?_
        rintro eo wq2 ⟨rfl, hw0⟩
        rw [hst2.out]
        have hbel : Below wq1.heap.size wq1 wq2 := by rw [hw0]; exact Below.refl _ _
        clear hw0
        replace HR := hide (HR.out.below hbel)
        replace HCH := hide (HCH.out.below hbel)
        replace R1 := hide (R1.out.below hbel)
        replace R2 := hide (R2.out.below hbel)
        replace HB := hide (HB.out.trans (hbel.mono HB.out.size))
        have z2 : Hid (wq1.heap.size ≤ wq2.heap.size) := hide hbel.size
        clear hbel 
        refine hK.out _ _ (HB.out) (fun hHeld => ?_)
        clear hK K
        refine wpAnyH_ready (rs := [8, 9]) (by kernel_rfl) (by simp) ?_
        refine AllReadyH.cons (o := _) rfl (fun K hK => ?_) (AllReadyH.cons (o := _) rfl (fun K hK => ?_) (AllReadyH.nil))
        · go_simp
          refine (adv_led bs ⟨JS.first p, 0, List.replicate n false, List.replicate n false⟩ 36 cap f ao n d S B (some ⟨g1, 0, none⟩) n (some ⟨g2, 0, none⟩) n (2 * S) wq2 HR.out hu.out R1.out R2.out hn0 enters_law HCH.out (show I64s 0 from by unfold I64s; omega) hSi h2i).mono ?_
          rintro ea wq3 ⟨b1, d1, b2, d2, rfl, r1, r2, e1, e2, hbel⟩
          rw [hsaid.out] at r1 r2 ⊢
          replace HR := hide (HR.out.below hbel)
          replace HCH := hide (HCH.out.below hbel)
          replace R1 := hide (R1.out.below hbel)
          replace R2 := hide (R2.out.below hbel)
          replace HB := hide (HB.out.trans (hbel.mono HB.out.size))
          have Q1 := hide (r1)
          have Q2 := hide (r2)
          have z3 : Hid (wq2.heap.size ≤ wq3.heap.size) := hide hbel.size
          have N1 : Hid (∀ b off, b1 = some ⟨b, off, none⟩ → wq2.heap.size ≤ b ∧ b < wq3.heap.size) := hide (fun b off e => ⟨e1 b off e, r1.far (hn0.1) b off e⟩)
          have N2 : Hid (∀ b off, b2 = some ⟨b, off, none⟩ → wq2.heap.size ≤ b ∧ b < wq3.heap.size) := hide (fun b off e => ⟨e2 b off e, r2.far (hn0.1) b off e⟩)
          clear hbel r1 r2 e1 e2
          refine hK.out _ _ (HB.out) (fun hHeld => ?_)
          clear hK K
          have hbel := below_alloc wq3 (lobj jz 0 none 0 0 none 0 0)
          have HT := hide (OAt.new wq3 (lobj jz 0 none 0 0 none 0 0))
          refine wpAnyH_ready (rs := [9]) (by kernel_rfl) (by simp) ?_
          refine AllReadyH.cons (o := _) rfl (fun K hK => ?_) AllReadyH.nil
          go_simp
          refine hK.out _ _ (HB.out.trans (hbel.mono HB.out.size)) (fun hHeld => ?_)
          clear hK K
          have z4 : Hid ((wq3.alloc (lobj jz 0 none 0 0 none 0 0)).heap.size = wq3.heap.size + 1) := hide (by simp)
          generalize wq3.alloc (lobj jz 0 none 0 0 none 0 0) = wq4 at hbel HT hHeld z4 ⊢
          replace HR := hide (HR.out.below hbel)
          replace HCH := hide (HCH.out.below hbel)
          replace R1 := hide (R1.out.below hbel)
          replace R2 := hide (R2.out.below hbel)
          replace Q1 := hide (Q1.out.below hbel)
          replace Q2 := hide (Q2.out.below hbel)
          have HTs : Hid (W1.heap.size ≤ wq3.heap.size) := hide HB.out.size
          replace HB := hide (HB.out.trans (hbel.mono HB.out.size))
          clear hbel
          obtain ⟨gT, gTe⟩ : ∃ x, Hid (wq3.heap.size = x) := ⟨_, rfl⟩
          rw [gTe.out] at HT HTs ⊢
          refine wpAnyH_ready (rs := [10]) (by kernel_rfl) (by simp) ?_
          refine AllReadyH.cons (o := _) rfl (fun K hK => ?_) AllReadyH.nil
          obtain ⟨wq5, hrun, hoS, haS⟩ := store_obj (P := Try.prog) (ty := 39) (n := 13) (cs := (lcells (JS.first p) 2 b1 n d1 b2 n d2).toList) infoLS rfl rfl (lcells_one _ _ _ _ _ _ _ _) HT.out.at_
          have y1 := z1.out
          have y2 := z2.out
          have y3 := z3.out
          have y4 := z4.out
          have yT := HTs.out
          have yg := gTe.out
          refine step_store_at 39 (.tmp 10) (.tmp 36) rfl rfl _ _ rfl rfl wq5 hrun ?_
          have HG := hide ((show OAt wq5 gT (.cells (lcells (JS.first p) 2 b1 n d1 b2 n d2) 39) from OAt.of hoS))
          have K1 := hide (Q1.out.aside haS (fun b off e => by have := N1.out b off e; omega))
          have K2 := hide (Q2.out.aside haS (fun b off e => by have := N2.out b off e; omega))
          have HBB := hide (HB.out.trans (haS.old _ HB.out.size (by omega)))
          have M1 := hide ((fun b off e => by have := N1.out b off e; omega : ∀ b off, b1 = some ⟨b, off, none⟩ → b ≠ gT))
          have M2 := hide ((fun b off e => by have := N2.out b off e; omega : ∀ b off, b2 = some ⟨b, off, none⟩ → b ≠ gT))
          refine hK.out _ _ ((HB.out.trans (haS.old _ HB.out.size (by omega)))) (fun hHeld => ?_)
          clear hK K
          refine wpAnyH_done (by kernel_rfl) ?_ _
          refine NoPanic.normal ?_
          go_wp2
          go_meet
          exact ⟨gT, b1, d1, b2, d2, rfl, hide ⟨HG.out, K1.out, K2.out, HTs.out, HBB.out⟩⟩
        · have hbel := below_alloc wq2 (lobj jz 0 none 0 0 none 0 0)
          have HT := hide (OAt.new wq2 (lobj jz 0 none 0 0 none 0 0))
          go_simp
          refine hK.out _ _ (HB.out.trans (hbel.mono HB.out.size)) (fun hHeld => ?_)
          clear hK K
          have z3 : Hid ((wq2.alloc (lobj jz 0 none 0 0 none 0 0)).heap.size = wq2.heap.size + 1) := hide (by simp)
          generalize wq2.alloc (lobj jz 0 none 0 0 none 0 0) = wq3 at hbel HT hHeld z3 ⊢
          replace HR := hide (HR.out.below hbel)
          replace HCH := hide (HCH.out.below hbel)
          replace R1 := hide (R1.out.below hbel)
          replace R2 := hide (R2.out.below hbel)
          have HTs : Hid (W1.heap.size ≤ wq2.heap.size) := hide HB.out.size
          replace HB := hide (HB.out.trans (hbel.mono HB.out.size))
          clear hbel
          obtain ⟨gT, gTe⟩ : ∃ x, Hid (wq2.heap.size = x) := ⟨_, rfl⟩
          rw [gTe.out] at HT HTs ⊢
          refine wpAnyH_ready (rs := [8]) (by kernel_rfl) (by simp) ?_
          refine AllReadyH.cons (o := _) rfl (fun K hK => ?_) AllReadyH.nil
          go_simp
          refine (adv_led bs ⟨JS.first p, 0, List.replicate n false, List.replicate n false⟩ 36 cap f ao n d S B (some ⟨g1, 0, none⟩) n (some ⟨g2, 0, none⟩) n (2 * S) wq3 HR.out hu.out R1.out R2.out hn0 enters_law HCH.out (show I64s 0 from by unfold I64s; omega) hSi h2i).mono ?_
          rintro ea wq4 ⟨b1, d1, b2, d2, rfl, r1, r2, e1, e2, hbel⟩
          rw [hsaid.out] at r1 r2 ⊢
          replace HR := hide (HR.out.below hbel)
          replace HCH := hide (HCH.out.below hbel)
          replace R1 := hide (R1.out.below hbel)
          replace R2 := hide (R2.out.below hbel)
          replace HT := hide (HT.out.below hbel)
          replace HB := hide (HB.out.trans (hbel.mono HB.out.size))
          have Q1 := hide (r1)
          have Q2 := hide (r2)
          have z4 : Hid (wq3.heap.size ≤ wq4.heap.size) := hide hbel.size
          have N1 : Hid (∀ b off, b1 = some ⟨b, off, none⟩ → wq3.heap.size ≤ b ∧ b < wq4.heap.size) := hide (fun b off e => ⟨e1 b off e, r1.far (hn0.1) b off e⟩)
          have N2 : Hid (∀ b off, b2 = some ⟨b, off, none⟩ → wq3.heap.size ≤ b ∧ b < wq4.heap.size) := hide (fun b off e => ⟨e2 b off e, r2.far (hn0.1) b off e⟩)
          clear hbel r1 r2 e1 e2
          refine hK.out _ _ (HB.out) (fun hHeld => ?_)
          clear hK K
          refine wpAnyH_ready (rs := [10]) (by kernel_rfl) (by simp) ?_
          refine AllReadyH.cons (o := _) rfl (fun K hK => ?_) AllReadyH.nil
          obtain ⟨wq5, hrun, hoS, haS⟩ := store_obj (P := Try.prog) (ty := 39) (n := 13) (cs := (lcells (JS.first p) 2 b1 n d1 b2 n d2).toList) infoLS rfl rfl (lcells_one _ _ _ _ _ _ _ _) HT.out.at_
          have y1 := z1.out
          have y2 := z2.out
          have y3 := z3.out
          have y4 := z4.out
          have yT := HTs.out
          have yg := gTe.out
          refine step_store_at 39 (.tmp 10) (.tmp 36) rfl rfl _ _ rfl rfl wq5 hrun ?_
          have HG := hide ((show OAt wq5 gT (.cells (lcells (JS.first p) 2 b1 n d1 b2 n d2) 39) from OAt.of hoS))
          have K1 := hide (Q1.out.aside haS (fun b off e => by have := N1.out b off e; omega))
          have K2 := hide (Q2.out.aside haS (fun b off e => by have := N2.out b off e; omega))
          have HBB := hide (HB.out.trans (haS.old _ HB.out.size (by omega)))
          have M1 := hide ((fun b off e => by have := N1.out b off e; omega : ∀ b off, b1 = some ⟨b, off, none⟩ → b ≠ gT))
          have M2 := hide ((fun b off e => by have := N2.out b off e; omega : ∀ b off, b2 = some ⟨b, off, none⟩ → b ≠ gT))
          refine hK.out _ _ ((HB.out.trans (haS.old _ HB.out.size (by omega)))) (fun hHeld => ?_)
          clear hK K
          refine wpAnyH_done (by kernel_rfl) ?_ _
          refine NoPanic.normal ?_
          go_wp2
          go_meet
          exact ⟨gT, b1, d1, b2, d2, rfl, hide ⟨HG.out, K1.out, K2.out, HTs.out, HBB.out⟩⟩
      · have hbel := below_alloc wq1 (lobj jz 0 none 0 0 none 0 0)
        have HT := hide (OAt.new wq1 (lobj jz 0 none 0 0 none 0 0))
        go_simp
        refine hK.out _ _ (HB.out.trans (hbel.mono HB.out.size)) (fun hHeld => ?_)
        clear hK K
        have z2 : Hid ((wq1.alloc (lobj jz 0 none 0 0 none 0 0)).heap.size = wq1.heap.size + 1) := hide (by simp)
        generalize wq1.alloc (lobj jz 0 none 0 0 none 0 0) = wq2 at hbel HT hHeld z2 ⊢
        replace HR := hide (HR.out.below hbel)
        replace HCH := hide (HCH.out.below hbel)
        replace R1 := hide (R1.out.below hbel)
        replace R2 := hide (R2.out.below hbel)
        have HTs : Hid (W1.heap.size ≤ wq1.heap.size) := hide HB.out.size
        replace HB := hide (HB.out.trans (hbel.mono HB.out.size))
        clear hbel
        obtain ⟨gT, gTe⟩ : ∃ x, Hid (wq1.heap.size = x) := ⟨_, rfl⟩
        rw [gTe.out] at HT HTs ⊢
        refine wpAnyH_ready (rs := [6]) (by kernel_rfl) (by simp) ?_
        refine AllReadyH.cons (o := _) rfl (fun K hK => ?_) AllReadyH.nil
        go_simp
        refine (start_any 2 S wq2 (by omega) hSi).mono ?_
        rintro eo wq3 ⟨rfl, hw0⟩
        rw [hst2.out]
        have hbel : Below wq2.heap.size wq2 wq3 := by rw [hw0]; exact Below.refl _ _
        clear hw0
        replace HR := hide (HR.out.below hbel)
        replace HCH := hide (HCH.out.below hbel)
        replace R1 := hide (R1.out.below hbel)
        replace R2 := hide (R2.out.below hbel)
        replace HT := hide (HT.out.below hbel)
        replace HB := hide (HB.out.trans (hbel.mono HB.out.size))
        have z3 : Hid (wq2.heap.size ≤ wq3.heap.size) := hide hbel.size
        clear hbel 
        refine hK.out _ _ (HB.out) (fun hHeld => ?_)
        clear hK K
        refine wpAnyH_ready (rs := [8]) (by kernel_rfl) (by simp) ?_
        refine AllReadyH.cons (o := _) rfl (fun K hK => ?_) AllReadyH.nil
        go_simp
        refine (adv_led bs ⟨JS.first p, 0, List.replicate n false, List.replicate n false⟩ 36 cap f ao n d S B (some ⟨g1, 0, none⟩) n (some ⟨g2, 0, none⟩) n (2 * S) wq3 HR.out hu.out R1.out R2.out hn0 enters_law HCH.out (show I64s 0 from by unfold I64s; omega) hSi h2i).mono ?_
        rintro ea wq4 ⟨b1, d1, b2, d2, rfl, r1, r2, e1, e2, hbel⟩
        rw [hsaid.out] at r1 r2 ⊢
        replace HR := hide (HR.out.below hbel)
        replace HCH := hide (HCH.out.below hbel)
        replace R1 := hide (R1.out.below hbel)
        replace R2 := hide (R2.out.below hbel)
        replace HT := hide (HT.out.below hbel)
        replace HB := hide (HB.out.trans (hbel.mono HB.out.size))
        have Q1 := hide (r1)
        have Q2 := hide (r2)
        have z4 : Hid (wq3.heap.size ≤ wq4.heap.size) := hide hbel.size
        have N1 : Hid (∀ b off, b1 = some ⟨b, off, none⟩ → wq3.heap.size ≤ b ∧ b < wq4.heap.size) := hide (fun b off e => ⟨e1 b off e, r1.far (hn0.1) b off e⟩)
        have N2 : Hid (∀ b off, b2 = some ⟨b, off, none⟩ → wq3.heap.size ≤ b ∧ b < wq4.heap.size) := hide (fun b off e => ⟨e2 b off e, r2.far (hn0.1) b off e⟩)
        clear hbel r1 r2 e1 e2
        refine hK.out _ _ (HB.out) (fun hHeld => ?_)
        clear hK K
        refine wpAnyH_ready (rs := [10]) (by kernel_rfl) (by simp) ?_
        refine AllReadyH.cons (o := _) rfl (fun K hK => ?_) AllReadyH.nil
        obtain ⟨wq5, hrun, hoS, haS⟩ := store_obj (P := Try.prog) (ty := 39) (n := 13) (cs := (lcells (JS.first p) 2 b1 n d1 b2 n d2).toList) infoLS rfl rfl (lcells_one _ _ _ _ _ _ _ _) HT.out.at_
        have y1 := z1.out
        have y2 := z2.out
        have y3 := z3.out
        have y4 := z4.out
        have yT := HTs.out
        have yg := gTe.out
        refine step_store_at 39 (.tmp 10) (.tmp 36) rfl rfl _ _ rfl rfl wq5 hrun ?_
        have HG := hide ((show OAt wq5 gT (.cells (lcells (JS.first p) 2 b1 n d1 b2 n d2) 39) from OAt.of hoS))
        have K1 := hide (Q1.out.aside haS (fun b off e => by have := N1.out b off e; omega))
        have K2 := hide (Q2.out.aside haS (fun b off e => by have := N2.out b off e; omega))
        have HBB := hide (HB.out.trans (haS.old _ HB.out.size (by omega)))
        have M1 := hide ((fun b off e => by have := N1.out b off e; omega : ∀ b off, b1 = some ⟨b, off, none⟩ → b ≠ gT))
        have M2 := hide ((fun b off e => by have := N2.out b off e; omega : ∀ b off, b2 = some ⟨b, off, none⟩ → b ≠ gT))
        refine hK.out _ _ ((HB.out.trans (haS.old _ HB.out.size (by omega)))) (fun hHeld => ?_)
        clear hK K
        refine wpAnyH_done (by kernel_rfl) ?_ _
        refine NoPanic.normal ?_
        go_wp2
        go_meet
        exact ⟨gT, b1, d1, b2, d2, rfl, hide ⟨HG.out, K1.out, K2.out, HTs.out, HBB.out⟩⟩
    · have hbel := below_alloc w0 (lobj jz 0 none 0 0 none 0 0)
      have HT := hide (OAt.new w0 (lobj jz 0 none 0 0 none 0 0))
      go_simp
      refine hK.out _ _ (HB.out.trans (hbel.mono HB.out.size)) (fun hHeld => ?_)
      clear hK K
      have z1 : Hid ((w0.alloc (lobj jz 0 none 0 0 none 0 0)).heap.size = w0.heap.size + 1) := hide (by simp)
      generalize w0.alloc (lobj jz 0 none 0 0 none 0 0) = wq1 at hbel HT hHeld z1 ⊢
      replace HR := hide (HR.out.below hbel)
      replace HCH := hide (HCH.out.below hbel)
      have HTs : Hid (W1.heap.size ≤ w0.heap.size) := hide HB.out.size
      replace HB := hide (HB.out.trans (hbel.mono HB.out.size))
      clear hbel
      obtain ⟨gT, gTe⟩ : ∃ x, Hid (w0.heap.size = x) := ⟨_, rfl⟩
      rw [gTe.out] at HT HTs ⊢
      refine wpAnyH_ready (rs := [3]) (by kernel_rfl) (by simp) ?_
      refine AllReadyH.cons (o := _) rfl (fun K hK => ?_) AllReadyH.nil
      go_simp
      refine (open_led ao n d S B p wq1 hn0.2).mono ?_
      rintro eo wq2 ⟨g1, g2, rfl, o1, o2, l12, _, hbel⟩
      replace HR := hide (HR.out.below hbel)
      replace HCH := hide (HCH.out.below hbel)
      replace HT := hide (HT.out.below hbel)
      replace HB := hide (HB.out.trans (hbel.mono HB.out.size))
      have R1 := hide (RowB.obj (n := n) o1 (by simp) (by unfold maxLen; omega))
      have R2 := hide (RowB.obj (n := n) o2 (by simp) (by unfold maxLen; omega))
      have z2 : Hid (wq1.heap.size ≤ wq2.heap.size) := hide hbel.size
      clear hbel o1 o2 l12
      refine hK.out _ _ (HB.out) (fun hHeld => ?_)
      clear hK K
      refine wpAnyH_ready (rs := [6]) (by kernel_rfl) (by simp) ?_
      refine AllReadyH.cons (o := _) rfl (fun K hK => ?_) AllReadyH.nil
      go_simp
      refine (start_any 2 S wq2 (by omega) hSi).mono ?_
      rintro eo wq3 ⟨rfl, hw0⟩
      rw [hst2.out]
      have hbel : Below wq2.heap.size wq2 wq3 := by rw [hw0]; exact Below.refl _ _
      clear hw0
      replace HR := hide (HR.out.below hbel)
      replace HCH := hide (HCH.out.below hbel)
      replace HT := hide (HT.out.below hbel)
      replace R1 := hide (R1.out.below hbel)
      replace R2 := hide (R2.out.below hbel)
      replace HB := hide (HB.out.trans (hbel.mono HB.out.size))
      have z3 : Hid (wq2.heap.size ≤ wq3.heap.size) := hide hbel.size
      clear hbel 
      refine hK.out _ _ (HB.out) (fun hHeld => ?_)
      clear hK K
      refine wpAnyH_ready (rs := [8]) (by kernel_rfl) (by simp) ?_
      refine AllReadyH.cons (o := _) rfl (fun K hK => ?_) AllReadyH.nil
      go_simp
      refine (adv_led bs ⟨JS.first p, 0, List.replicate n false, List.replicate n false⟩ 36 cap f ao n d S B (some ⟨g1, 0, none⟩) n (some ⟨g2, 0, none⟩) n (2 * S) wq3 HR.out hu.out R1.out R2.out hn0 enters_law HCH.out (show I64s 0 from by unfold I64s; omega) hSi h2i).mono ?_
      rintro ea wq4 ⟨b1, d1, b2, d2, rfl, r1, r2, e1, e2, hbel⟩
      rw [hsaid.out] at r1 r2 ⊢
      replace HR := hide (HR.out.below hbel)
      replace HCH := hide (HCH.out.below hbel)
      replace HT := hide (HT.out.below hbel)
      replace R1 := hide (R1.out.below hbel)
      replace R2 := hide (R2.out.below hbel)
      replace HB := hide (HB.out.trans (hbel.mono HB.out.size))
      have Q1 := hide (r1)
      have Q2 := hide (r2)
      have z4 : Hid (wq3.heap.size ≤ wq4.heap.size) := hide hbel.size
      have N1 : Hid (∀ b off, b1 = some ⟨b, off, none⟩ → wq3.heap.size ≤ b ∧ b < wq4.heap.size) := hide (fun b off e => ⟨e1 b off e, r1.far (hn0.1) b off e⟩)
      have N2 : Hid (∀ b off, b2 = some ⟨b, off, none⟩ → wq3.heap.size ≤ b ∧ b < wq4.heap.size) := hide (fun b off e => ⟨e2 b off e, r2.far (hn0.1) b off e⟩)
      clear hbel r1 r2 e1 e2
      refine hK.out _ _ (HB.out) (fun hHeld => ?_)
      clear hK K
      refine wpAnyH_ready (rs := [10]) (by kernel_rfl) (by simp) ?_
      refine AllReadyH.cons (o := _) rfl (fun K hK => ?_) AllReadyH.nil
      obtain ⟨wq5, hrun, hoS, haS⟩ := store_obj (P := Try.prog) (ty := 39) (n := 13) (cs := (lcells (JS.first p) 2 b1 n d1 b2 n d2).toList) infoLS rfl rfl (lcells_one _ _ _ _ _ _ _ _) HT.out.at_
      have y1 := z1.out
      have y2 := z2.out
      have y3 := z3.out
      have y4 := z4.out
      have yT := HTs.out
      have yg := gTe.out
      refine step_store_at 39 (.tmp 10) (.tmp 36) rfl rfl _ _ rfl rfl wq5 hrun ?_
      have HG := hide ((show OAt wq5 gT (.cells (lcells (JS.first p) 2 b1 n d1 b2 n d2) 39) from OAt.of hoS))
      have K1 := hide (Q1.out.aside haS (fun b off e => by have := N1.out b off e; omega))
      have K2 := hide (Q2.out.aside haS (fun b off e => by have := N2.out b off e; omega))
      have HBB := hide (HB.out.trans (haS.old _ HB.out.size (by omega)))
      have M1 := hide ((fun b off e => by have := N1.out b off e; omega : ∀ b off, b1 = some ⟨b, off, none⟩ → b ≠ gT))
      have M2 := hide ((fun b off e => by have := N2.out b off e; omega : ∀ b off, b2 = some ⟨b, off, none⟩ → b ≠ gT))
      refine hK.out _ _ ((HB.out.trans (haS.old _ HB.out.size (by omega)))) (fun hHeld => ?_)
      clear hK K
      refine wpAnyH_done (by kernel_rfl) ?_ _
      refine NoPanic.normal ?_
      go_wp2
      go_meet
      exact ⟨gT, b1, d1, b2, d2, rfl, hide ⟨HG.out, K1.out, K2.out, HTs.out, HBB.out⟩⟩
  case rest =>
    obtain ⟨gs, b1, d1, b2, d2, rfl, hcc⟩ := hcut
    obtain ⟨hG, hR1, hR2, hgW, hbel⟩ := hcc.out
    have HG := hide hG
    have HR1 := hide hR1
    have HR2 := hide hR2
    have HX2 := hide (HX.out.below hbel)
    have HRb := hide (HR.out.below hbel)
    have HC2 := hide (HCH.out.below hbel)
    have HN2 := hide (HN.out.trans (hbel.mono HN.out.size))
    have hcl : hc < W1.heap.size := HX.out.lt
    have hgl : gs < wc.heap.size := hG.lt
    have hWc : W1.heap.size ≤ wc.heap.size := hbel.size
    have hgW' : W1.heap.size ≤ gs := hgW
    clear hcc hG hR1 hR2 hgW hbel hxs HX HR HCH HN
    have q0 := HX2.out.cell 0
    simp only [List.getElem?_toArray, List.getElem?_cons_zero] at q0
    have HW2 := hide (Below.refl wc.heap.size wc)
    go_wp2_with fail
    go_loopw [11, 40] (fun x i wr => ∃ (k : Nat) (ai : Option Addr) (di : Nat), k ≤ n ∧ i = .int .i64 k ∧ x = .slice ai (whoK (whoP a2) k).length di ∧ Hid (wr.ownsRow wc.heap.size 3 1 (.slice ai (whoK (whoP a2) k).length di) (whoK (whoP a2) k).length ((whoK (whoP a2) k).map (Value.int .i64)) ∧ Below wc.heap.size wc wr)) (fun x i _ => n - (intOf i).toNat)
    case atStart => exact ⟨0, none, 0, Nat.zero_le _, rfl, rfl, hide ⟨World.ownsRow_nil _ _ _ _, HW2.out⟩⟩
    case round =>
      obtain ⟨k, ai, di, hk, rfl, rfl, hI⟩ := hrel
      obtain ⟨hown, hbel⟩ := hI.out
      by_cases hlt : k < n
      · by_cases hx : whoP a2 k = true
        · obtain ⟨m, hm⟩ : ∃ m, Hid ((whoK (whoP a2) k).length = m) := ⟨_, rfl⟩
          rw [hm.out] at hown ⊢
          have hmk : m ≤ k := by rw [← hm.out]; exact whoK_len _ k
          have HO := hide hown
          have HBL := hide hbel
          have hin := hide (whoK_in (whoP a2) k hx)
          have hsz := hbel.size
          have hx2 : k < 16 ∧ (bits BinOp.and IntKind.u16 a2 (IntKind.u16.wrap (2 ^ k)) != 0) = true := by
            unfold whoP at hx
            simpa using hx
          obtain ⟨h16, hbit⟩ := hx2
          clear hI hown hbel hx
          go_wp2_with (at_builtin; refine wpList_append_rows _ rfl (.tmp 52) (.tmp 54) 41 rfl wc.heap.size 3 i0 .i64 (.int .i64 0) 8 Try.underlying41 hi hz0 hz1 hz2 rfl (.slice ai m di) m (whoK (whoP a2) k) rfl (owns_below HO.out (below_alloc _ _)) (some ⟨wr.heap.size, 0, none⟩) 1 1 [(k : Int)] rfl (RowIn.lit .i64 _ _ _ _ _ _ _ [(k : Int)] rfl rfl rfl (by simp [maxLen])) ?c1 ?c2 ?c3 ?_)
          case c1 => unfold maxLen; omega
          case c2 => omega
          case c3 => simp; omega
          intro ao4 d4 w4 hown4 hgrow4
          have HB4 := hide ((HBL.out.alloc hsz (.cells #[.int .i64 (k : Int)] 3)).grown hgrow4 (by simp; omega) (fun j hj => (HO.out.lt j hj).1))
          have hm4 : m + 1 = (whoK (whoP a2) (k + 1)).length := by rw [hin.out, List.length_append, hm.out]; rfl
          replace hown4 : w4.ownsRow wc.heap.size 3 1 (.slice ao4 (m + 1) d4) (m + 1) ((whoK (whoP a2) (k + 1)).map (Value.int .i64)) := by rw [hin.out, List.map_append]; exact hown4
          rw [hm4] at hown4 ⊢
          have HO4 := hide hown4
          clear hown4 hgrow4 hm4 HO HBL hin
          go_wp2
          go_roundw
          case rel => exact ⟨k + 1, ao4, d4, by omega, by go_num, rfl, hide ⟨HO4.out, HB4.out⟩⟩
          case measure => simp [intOf]; omega
        · have hx : whoP a2 k = false := by simpa using hx
          have hout := whoK_out (whoP a2) k hx
          rw [← hout] at hown ⊢
          have HO := hide hown
          have HBL := hide hbel
          clear hI hown hbel hout
          by_cases h16 : k < 16
          · have hbit : (bits BinOp.and IntKind.u16 a2 (IntKind.u16.wrap (2 ^ k)) != 0) = false := by
              unfold whoP at hx
              rw [decide_eq_true h16, Bool.true_and] at hx
              exact hx
            clear hx
            go_wp2
            go_roundw
            case rel => exact ⟨k + 1, ai, di, by omega, by go_num, rfl, hide ⟨HO.out, HBL.out⟩⟩
            case measure => simp [intOf]; omega
          · have hd : decide ((k : Int) < 16) = false := decide_eq_false (by omega)
            clear hx
            go_wp2
            go_roundw
            case rel => exact ⟨k + 1, ai, di, by omega, by go_num, rfl, hide ⟨HO.out, HBL.out⟩⟩
            case measure => simp [intOf]; omega
      · obtain rfl : n = k := by omega
        obtain ⟨ai', di', e1, hRw⟩ := RowIn.ofOwned hown
        cases e1
        have hWB := hide (whoB_who (whoP a2) n)
        have hIM := hide (idx_mark (whoP a2) n)
        generalize whoK (whoP a2) n = who at hown hRw hWB hIM ⊢
        obtain ⟨m, hm⟩ : ∃ m, Hid (who.length = m) := ⟨_, rfl⟩
        have hml := hRw.cap
        unfold maxLen at hml
        rw [hm.out] at hRw hWB hml ⊢
        have HWr := hide hRw
        have HB := hide hbel
        have HRr := hide (HRb.out.below hbel)
        have HCr := hide (HC2.out.below hbel)
        have HGr := hide (HG.out.below hbel)
        have HR1r := hide (HR1.out.below hbel)
        have HR2r := hide (HR2.out.below hbel)
        have HXr := hide (HX2.out.below hbel)
        have HNr := hide (HN2.out.trans (hbel.mono HN2.out.size))
        have hwrs := hbel.size
        clear hI hown hRw hbel HB HRb HC2 HG HR1 HR2 HX2 HN2 HW2 q0 hlt hk hi hz0 hz1 hz2
        obtain ⟨f2, hf2⟩ : ∃ y, Hid (f (stI 2 S) = y) := ⟨_, rfl⟩
        have hst2 : Hid (wrap64 (lo0 2 * lo1 S) = 2 * S) := stI_small 2 S (by omega) hSb
        have hst3 : Hid (wrap64 (lo0 3 * lo1 S) = 3 * S) := stI_small 3 S (by omega) hSb
        have hcnt := most_cnt n S f p 0 who hSb (by rw [hWB.out, hm.out]) f2 hf2.out
        rw [hm.out] at hcnt
        have hcb1 := hide hcnt.1
        have hcs1 := hide hcnt.2
        have hend := hide (most_end bs S f n hn p (mark (List.replicate n false) who) hSb)
        obtain ⟨K, hK⟩ : ∃ x, Hid (en bs (mark (List.replicate n false) who) = x) := ⟨_, rfl⟩
        have hKs : Hid (enB (sums bs who) (tot bs) = K) := by rw [← hK.out]; unfold en; rw [hIM.out]; exact hide rfl
        rw [hK.out, hf2.out] at hend
        obtain ⟨J, hJ⟩ : ∃ x, Hid ((JS.first p).next 2 false K (lo0 (wrap64 (2 - 1))) (f (stI (wrap64 (2 - 1)) S)) (lo0 2) f2 = x) := ⟨_, rfl⟩
        rw [hJ.out] at hend
        have hJc : Hid (J.b0 = K ∧ J.ce = (bif K then 2 else 0) ∧ J.cr = (bif K then f2 else p)) := by rw [← hJ.out]; cases K <;> exact hide ⟨rfl, rfl, rfl⟩
        obtain ⟨vm, hvm⟩ : ∃ x, Hid (mark (List.replicate n false) who = x) := ⟨_, rfl⟩
        rw [hvm.out] at hcs1 hend
        have hsb := sums_b bs hu.out who
        have htb := tot_b bs
        obtain ⟨s1, hs1⟩ : ∃ x, Hid (sums bs who = x) := ⟨_, rfl⟩
        obtain ⟨t1, ht1⟩ : ∃ x, Hid (tot bs = x) := ⟨_, rfl⟩
        rw [hs1.out] at hKs hsb
        rw [ht1.out] at hKs htb
        have h2i : I64s (2 * S) := by unfold I64s; omega
        have h3i : I64s (3 * S) := by unfold I64s; omega
        have h2e : I64s 2 := by unfold I64s; omega
        have hcs : Hid (∀ w', Below wr.heap.size wr w' → w'.cell? ⟨hc, 0, none⟩ = some (.slice ao n d) ∧ w'.cell? ⟨hc, 1, none⟩ = some (.int .i64 S) ∧ w'.cell? ⟨hc, 2, none⟩ = some (.int .i64 B) ∧ w'.cell? ⟨gs, 6, none⟩ = some (.int .i64 0) ∧ w'.cell? ⟨gs, 7, none⟩ = some (.int .u64 p)) := fun w' h => by
          have V := HXr.out.below h
          have U := HGr.out.below h
          exact ⟨V.cell 0, V.cell 1, V.cell 2, U.cell 6, U.cell 7⟩
        clear hcnt hJ hK hIM hWB hvm hf
        go_upto_region 14 with fail
        go_cut [13] from 57 to 67 (fun x wx => ∃ g, x = Value.pointer (some ⟨g, 0, none⟩) ∧ Hid (OAt wx g (vobj (2 * S) 0 0 p 2 f2 ai m di) ∧ wr.heap.size ≤ g ∧ Below wr.heap.size wr wx))
        case first =>
          have HCq := hide HCr.out
          have HB : Hid (Below wr.heap.size wr wr.drew) := hide (Below.refl _ _).drew
          refine wp_region_noPanic ?_
          refine wp_region_held_drew (S := fun w' => Below wr.heap.size wr w') (by kernel_rfl) HB.out (fun hHeld => ?_)
          replace HCq := hide (HCq.out.below HB.out)
          generalize wr.drew = w0 at HB hHeld HCq ⊢
          refine take_set (i := 0) (v := .pointer (some ⟨hc, 1, none⟩)) rfl rfl (by kernel_rfl) (by kernel_rfl) (by kernel_rfl) (fun _ _ _ h => h) (Or.inl ⟨by kernel_rfl, fun w' hSw => ?_⟩) hHeld ?_
          · go_simp
          simp only [List.set_cons_succ, List.set_cons_zero]
          refine take_set (i := 1) (v := .int .i64 S) rfl rfl (by kernel_rfl) (by kernel_rfl) (by kernel_rfl) (fun _ _ _ h => h) (Or.inl ⟨by kernel_rfl, fun w' hSw => ?_⟩) hHeld ?_
          · have hl := hcs.out w' hSw; go_simp
          simp only [List.set_cons_succ, List.set_cons_zero]
          refine take_set (i := 3) (v := .pointer (some ⟨gs, 0, none⟩)) rfl rfl (by kernel_rfl) (by kernel_rfl) (by kernel_rfl) (fun _ _ _ h => h) (Or.inl ⟨by kernel_rfl, fun w' hSw => ?_⟩) hHeld ?_
          · go_simp
          simp only [List.set_cons_succ, List.set_cons_zero]
          refine take_set (i := 4) (v := .pointer (some ⟨gs, 6, none⟩)) rfl rfl (by kernel_rfl) (by kernel_rfl) (by kernel_rfl) (fun _ _ _ h => h) (Or.inl ⟨by kernel_rfl, fun w' hSw => ?_⟩) hHeld ?_
          · go_simp
          simp only [List.set_cons_succ, List.set_cons_zero]
          refine take_set (i := 5) (v := .agg (pcells 0 p)) rfl rfl (by kernel_rfl) (by kernel_rfl) (by kernel_rfl) (fun _ _ _ h => h) (Or.inl ⟨by kernel_rfl, fun w' hSw => ?_⟩) hHeld ?_
          · have hl := hcs.out w' hSw; go_simp
          simp only [List.set_cons_succ, List.set_cons_zero]
          refine take_set (i := 6) (v := .agg #[.slice ao n d, .int .i64 S, .int .i64 B]) rfl rfl (by kernel_rfl) (by kernel_rfl) (by kernel_rfl) (fun _ _ _ h => h) (Or.inl ⟨by kernel_rfl, fun w' hSw => ?_⟩) hHeld ?_
          · have hl := hcs.out w' hSw; go_simp
          simp only [List.set_cons_succ, List.set_cons_zero]
          refine take_set (i := 7) (v := chv 36 cap) rfl rfl (by kernel_rfl) (by kernel_rfl) (by kernel_rfl) (fun _ _ _ h => h) (Or.inl ⟨by kernel_rfl, fun w' hSw => ?_⟩) hHeld ?_
          · go_simp
          simp only [List.set_cons_succ, List.set_cons_zero]
          refine take_set (i := 9) (v := .slice ai m di) rfl rfl (by kernel_rfl) (by kernel_rfl) (by kernel_rfl) (fun _ _ _ h => h) (Or.inl ⟨by kernel_rfl, fun w' hSw => ?_⟩) hHeld ?_
          · go_simp
          simp only [List.set_cons_succ, List.set_cons_zero]
          refine wpAnyH_ready (rs := [2, 11]) (by kernel_rfl) (by simp) ?_
          refine AllReadyH.cons (o := _) rfl (fun K hK => ?_) (AllReadyH.cons (o := _) rfl (fun K hK => ?_) (AllReadyH.nil))
          · go_simp
            refine (start_any 2 S w0 (by omega) hSi).mono ?_
            rintro eo wq1 ⟨rfl, hw0⟩
            rw [hst2.out]
            have hbel : Below w0.heap.size w0 wq1 := by rw [hw0]; exact Below.refl _ _
            clear hw0
            replace HCq := hide (HCq.out.below hbel)
            replace HB := hide (HB.out.trans (hbel.mono HB.out.size))
            have z1 : Hid (w0.heap.size ≤ wq1.heap.size) := hide hbel.size
            clear hbel 
            refine hK.out _ _ (HB.out) (fun hHeld => ?_)
            clear hK K
            refine wpAnyH_ready (rs := [8, 11]) (by kernel_rfl) (by simp) ?_
            refine AllReadyH.cons (o := _) rfl (fun K hK => ?_) (AllReadyH.cons (o := _) rfl (fun K hK => ?_) (AllReadyH.nil))
            · go_simp
              refine (point_law 36 cap f ao n d S B 2 wq1 enters_law HCq.out h2e hSi).mono ?_
              rintro ep wq2 ⟨rfl, hbel⟩
              rw [hf2.out]
              replace HCq := hide (HCq.out.below hbel)
              replace HB := hide (HB.out.trans (hbel.mono HB.out.size))
              have z2 : Hid (wq1.heap.size ≤ wq2.heap.size) := hide hbel.size
              clear hbel 
              refine hK.out _ _ (HB.out) (fun hHeld => ?_)
              clear hK K
              refine take_set (i := 10) (v := .agg (vcells (2 * S) 0 0 p 2 f2 ai m di)) rfl rfl (by kernel_rfl) (by kernel_rfl) (by kernel_rfl) (fun _ _ _ h => h) (Or.inl ⟨by kernel_rfl, fun w' hSw => ?_⟩) hHeld ?_
              · go_simp
              simp only [List.set_cons_succ, List.set_cons_zero]
              have hbel := below_alloc wq2 (vobj 0 0 0 0 0 0 none 0 0)
              have HT := hide (OAt.new wq2 (vobj 0 0 0 0 0 0 none 0 0))
              refine wpAnyH_ready (rs := [11]) (by kernel_rfl) (by simp) ?_
              refine AllReadyH.cons (o := _) rfl (fun K hK => ?_) AllReadyH.nil
              go_simp
              refine hK.out _ _ (HB.out.trans (hbel.mono HB.out.size)) (fun hHeld => ?_)
              clear hK K
              have z3 : Hid ((wq2.alloc (vobj 0 0 0 0 0 0 none 0 0)).heap.size = wq2.heap.size + 1) := hide (by simp)
              generalize wq2.alloc (vobj 0 0 0 0 0 0 none 0 0) = wq3 at hbel HT hHeld z3 ⊢
              replace HCq := hide (HCq.out.below hbel)
              have HTs : Hid (wr.heap.size ≤ wq2.heap.size) := hide HB.out.size
              replace HB := hide (HB.out.trans (hbel.mono HB.out.size))
              clear hbel
              obtain ⟨gT, gTe⟩ : ∃ x, Hid (wq2.heap.size = x) := ⟨_, rfl⟩
              rw [gTe.out] at HT HTs ⊢
              refine wpAnyH_ready (rs := [12]) (by kernel_rfl) (by simp) ?_
              refine AllReadyH.cons (o := _) rfl (fun K hK => ?_) AllReadyH.nil
              obtain ⟨wq4, hrun, hoS, haS⟩ := store_obj (P := Try.prog) (ty := 43) (n := 7) (cs := (vcells (2 * S) 0 0 p 2 f2 ai m di).toList) infoVO rfl rfl (by simp [Value.oneCell']) HT.out.at_
              have y1 := z1.out
              have y2 := z2.out
              have y3 := z3.out
              have yT := HTs.out
              have yg := gTe.out
              refine step_store_at 43 (.tmp 13) (.tmp 67) rfl rfl _ _ rfl rfl wq4 hrun ?_
              have HG2 := hide ((show OAt wq4 gT (vobj (2 * S) 0 0 p 2 f2 ai m di) from OAt.of hoS))
              have HBB := hide (HB.out.trans (haS.old _ HB.out.size (by omega)))
              refine hK.out _ _ ((HB.out.trans (haS.old _ HB.out.size (by omega)))) (fun hHeld => ?_)
              clear hK K
              refine wpAnyH_done (by kernel_rfl) ?_ _
              refine NoPanic.normal ?_
              go_wp2
              go_meet
              exact ⟨gT, rfl, hide ⟨HG2.out, HTs.out, HBB.out⟩⟩
            · have hbel := below_alloc wq1 (vobj 0 0 0 0 0 0 none 0 0)
              have HT := hide (OAt.new wq1 (vobj 0 0 0 0 0 0 none 0 0))
              go_simp
              refine hK.out _ _ (HB.out.trans (hbel.mono HB.out.size)) (fun hHeld => ?_)
              clear hK K
              have z2 : Hid ((wq1.alloc (vobj 0 0 0 0 0 0 none 0 0)).heap.size = wq1.heap.size + 1) := hide (by simp)
              generalize wq1.alloc (vobj 0 0 0 0 0 0 none 0 0) = wq2 at hbel HT hHeld z2 ⊢
              replace HCq := hide (HCq.out.below hbel)
              have HTs : Hid (wr.heap.size ≤ wq1.heap.size) := hide HB.out.size
              replace HB := hide (HB.out.trans (hbel.mono HB.out.size))
              clear hbel
              obtain ⟨gT, gTe⟩ : ∃ x, Hid (wq1.heap.size = x) := ⟨_, rfl⟩
              rw [gTe.out] at HT HTs ⊢
              refine wpAnyH_ready (rs := [8]) (by kernel_rfl) (by simp) ?_
              refine AllReadyH.cons (o := _) rfl (fun K hK => ?_) AllReadyH.nil
              go_simp
              refine (point_law 36 cap f ao n d S B 2 wq2 enters_law HCq.out h2e hSi).mono ?_
              rintro ep wq3 ⟨rfl, hbel⟩
              rw [hf2.out]
              replace HCq := hide (HCq.out.below hbel)
              replace HT := hide (HT.out.below hbel)
              replace HB := hide (HB.out.trans (hbel.mono HB.out.size))
              have z3 : Hid (wq2.heap.size ≤ wq3.heap.size) := hide hbel.size
              clear hbel 
              refine hK.out _ _ (HB.out) (fun hHeld => ?_)
              clear hK K
              refine take_set (i := 10) (v := .agg (vcells (2 * S) 0 0 p 2 f2 ai m di)) rfl rfl (by kernel_rfl) (by kernel_rfl) (by kernel_rfl) (fun _ _ _ h => h) (Or.inl ⟨by kernel_rfl, fun w' hSw => ?_⟩) hHeld ?_
              · go_simp
              simp only [List.set_cons_succ, List.set_cons_zero]
              refine wpAnyH_ready (rs := [12]) (by kernel_rfl) (by simp) ?_
              refine AllReadyH.cons (o := _) rfl (fun K hK => ?_) AllReadyH.nil
              obtain ⟨wq4, hrun, hoS, haS⟩ := store_obj (P := Try.prog) (ty := 43) (n := 7) (cs := (vcells (2 * S) 0 0 p 2 f2 ai m di).toList) infoVO rfl rfl (by simp [Value.oneCell']) HT.out.at_
              have y1 := z1.out
              have y2 := z2.out
              have y3 := z3.out
              have yT := HTs.out
              have yg := gTe.out
              refine step_store_at 43 (.tmp 13) (.tmp 67) rfl rfl _ _ rfl rfl wq4 hrun ?_
              have HG2 := hide ((show OAt wq4 gT (vobj (2 * S) 0 0 p 2 f2 ai m di) from OAt.of hoS))
              have HBB := hide (HB.out.trans (haS.old _ HB.out.size (by omega)))
              refine hK.out _ _ ((HB.out.trans (haS.old _ HB.out.size (by omega)))) (fun hHeld => ?_)
              clear hK K
              refine wpAnyH_done (by kernel_rfl) ?_ _
              refine NoPanic.normal ?_
              go_wp2
              go_meet
              exact ⟨gT, rfl, hide ⟨HG2.out, HTs.out, HBB.out⟩⟩
          · have hbel := below_alloc w0 (vobj 0 0 0 0 0 0 none 0 0)
            have HT := hide (OAt.new w0 (vobj 0 0 0 0 0 0 none 0 0))
            go_simp
            refine hK.out _ _ (HB.out.trans (hbel.mono HB.out.size)) (fun hHeld => ?_)
            clear hK K
            have z1 : Hid ((w0.alloc (vobj 0 0 0 0 0 0 none 0 0)).heap.size = w0.heap.size + 1) := hide (by simp)
            generalize w0.alloc (vobj 0 0 0 0 0 0 none 0 0) = wq1 at hbel HT hHeld z1 ⊢
            replace HCq := hide (HCq.out.below hbel)
            have HTs : Hid (wr.heap.size ≤ w0.heap.size) := hide HB.out.size
            replace HB := hide (HB.out.trans (hbel.mono HB.out.size))
            clear hbel
            obtain ⟨gT, gTe⟩ : ∃ x, Hid (w0.heap.size = x) := ⟨_, rfl⟩
            rw [gTe.out] at HT HTs ⊢
            refine wpAnyH_ready (rs := [2]) (by kernel_rfl) (by simp) ?_
            refine AllReadyH.cons (o := _) rfl (fun K hK => ?_) AllReadyH.nil
            go_simp
            refine (start_any 2 S wq1 (by omega) hSi).mono ?_
            rintro eo wq2 ⟨rfl, hw0⟩
            rw [hst2.out]
            have hbel : Below wq1.heap.size wq1 wq2 := by rw [hw0]; exact Below.refl _ _
            clear hw0
            replace HCq := hide (HCq.out.below hbel)
            replace HT := hide (HT.out.below hbel)
            replace HB := hide (HB.out.trans (hbel.mono HB.out.size))
            have z2 : Hid (wq1.heap.size ≤ wq2.heap.size) := hide hbel.size
            clear hbel 
            refine hK.out _ _ (HB.out) (fun hHeld => ?_)
            clear hK K
            refine wpAnyH_ready (rs := [8]) (by kernel_rfl) (by simp) ?_
            refine AllReadyH.cons (o := _) rfl (fun K hK => ?_) AllReadyH.nil
            go_simp
            refine (point_law 36 cap f ao n d S B 2 wq2 enters_law HCq.out h2e hSi).mono ?_
            rintro ep wq3 ⟨rfl, hbel⟩
            rw [hf2.out]
            replace HCq := hide (HCq.out.below hbel)
            replace HT := hide (HT.out.below hbel)
            replace HB := hide (HB.out.trans (hbel.mono HB.out.size))
            have z3 : Hid (wq2.heap.size ≤ wq3.heap.size) := hide hbel.size
            clear hbel 
            refine hK.out _ _ (HB.out) (fun hHeld => ?_)
            clear hK K
            refine take_set (i := 10) (v := .agg (vcells (2 * S) 0 0 p 2 f2 ai m di)) rfl rfl (by kernel_rfl) (by kernel_rfl) (by kernel_rfl) (fun _ _ _ h => h) (Or.inl ⟨by kernel_rfl, fun w' hSw => ?_⟩) hHeld ?_
            · go_simp
            simp only [List.set_cons_succ, List.set_cons_zero]
            refine wpAnyH_ready (rs := [12]) (by kernel_rfl) (by simp) ?_
            refine AllReadyH.cons (o := _) rfl (fun K hK => ?_) AllReadyH.nil
            obtain ⟨wq4, hrun, hoS, haS⟩ := store_obj (P := Try.prog) (ty := 43) (n := 7) (cs := (vcells (2 * S) 0 0 p 2 f2 ai m di).toList) infoVO rfl rfl (by simp [Value.oneCell']) HT.out.at_
            have y1 := z1.out
            have y2 := z2.out
            have y3 := z3.out
            have yT := HTs.out
            have yg := gTe.out
            refine step_store_at 43 (.tmp 13) (.tmp 67) rfl rfl _ _ rfl rfl wq4 hrun ?_
            have HG2 := hide ((show OAt wq4 gT (vobj (2 * S) 0 0 p 2 f2 ai m di) from OAt.of hoS))
            have HBB := hide (HB.out.trans (haS.old _ HB.out.size (by omega)))
            refine hK.out _ _ ((HB.out.trans (haS.old _ HB.out.size (by omega)))) (fun hHeld => ?_)
            clear hK K
            refine wpAnyH_done (by kernel_rfl) ?_ _
            refine NoPanic.normal ?_
            go_wp2
            go_meet
            exact ⟨gT, rfl, hide ⟨HG2.out, HTs.out, HBB.out⟩⟩
        case rest =>
          obtain ⟨gv, rfl, hcc⟩ := hcut
          obtain ⟨hV, hgv, hbel⟩ := hcc.out
          have hbs := hbel.size
          have q := hcs.out _ hbel
          have LD := hide (load_obj Try.underlying39 infoLS rfl (HGr.out.below hbel).at_)
          have LV := hide (load_obj Try.underlying43 infoVO rfl hV.at_)
          have HCN := hide (cnt_led ⟨JS.first p, 2, List.replicate n false, List.replicate n false⟩ who 36 cap f ao n d S B b1 d1 b2 d2 (2 * S) 0 0 p 2 f2 ai m di wc (HR1r.out.below hbel) (HR2r.out.below hbel) (HWr.out.below hbel) hn0 enters_law (HCr.out.below hbel) h2e hSi h2i h2e)
          rw [hcb1.out, hcs1.out] at HCN
          have HBc := hide hbel
          clear hcc hV hbel
          go_wp2_with (first | refine wpList_load_at 39 (.tmp 10) rfl rfl _ rfl _ LD.out ?_ | refine wpList_load_at 43 (.tmp 13) rfl rfl _ rfl _ LV.out ?_)
          refine HCN.out.mono ?_
          rintro ec w5 ⟨b3, d3, b4, d4, rfl, r1, r2, e1, e2, hbel⟩
          have HT := OAt.new w5 (lobj jz 0 none 0 0 none 0 0)
          obtain ⟨w6, hrun, ho6, ha6⟩ := store_obj (P := Try.prog) (ty := 39) (n := 13) (cs := (lcells (JS.first p) 2 b3 n d3 b4 n d4).toList) infoLS rfl rfl (lcells_one _ _ _ _ _ _ _ _) HT.at_
          have hb5 : Below wr.heap.size wr w5 := HBc.out.trans (hbel.mono HBc.out.size)
          have hb6' : Below w5.heap.size w5 w6 := (below_alloc w5 (lobj jz 0 none 0 0 none 0 0)).trans (ha6.old w5.heap.size (by simp) (Nat.le_refl _))
          have HB6 := hide (hb5.trans (hb6'.mono hb5.size))
          have K1 := hide (r1.below hb6')
          have K2 := hide (r2.below hb6')
          have HT6 : Hid (OAt w6 w5.heap.size (lobj (JS.first p) 2 b3 n d3 b4 n d4)) := OAt.of ho6
          obtain ⟨gt, hgt⟩ : ∃ x, Hid (w5.heap.size = x) := ⟨_, rfl⟩
          have hrun' := hide hrun
          clear LD LV HCN r1 r2 e1 e2 hbel HT hrun ho6 ha6 hb5 hb6' q
          go_upto_region 16 with (refine wpList_store_at 39 (.tmp 14) (.tmp 74) rfl rfl _ _ rfl rfl w6 hrun'.out ?_)
          rw [hgt.out] at HT6 ⊢
          clear hrun' hgt
          obtain ⟨Bm, hBm⟩ : ∃ x, Hid (decide (0 < m) = x) := ⟨_, rfl⟩
          rw [hBm.out]
          go_cut [80] from 76 to 80 (fun x wx => x = .bool false ∧ wx = w6)
          case first =>
            have hb2 : Bm = decide (0 < m) := hBm.out.symm
            clear hBm
            by_cases hm0 : 0 < m
            · rw [decide_eq_true hm0] at hb2
              subst hb2
              have hd : decide ((0 : Int) < (m : Int)) = true := decide_eq_true (by omega)
              go_wp2
              go_meet
              exact ⟨rfl, rfl⟩
            · rw [decide_eq_false hm0] at hb2
              subst hb2
              have hd : decide ((0 : Int) < (m : Int)) = false := decide_eq_false (by omega)
              go_wp2
              go_meet
              exact ⟨rfl, rfl⟩
          case rest =>
            obtain ⟨rfl, hwc⟩ := hcut
            obtain rfl : _ = wc := hwc.symm
            have hcq : Hid (∀ w', Below w6.heap.size w6 w' → w'.cell? ⟨hc, 0, none⟩ = some (.slice ao n d) ∧ w'.cell? ⟨hc, 1, none⟩ = some (.int .i64 S) ∧ w'.cell? ⟨hc, 2, none⟩ = some (.int .i64 B)) := fun w' h => by
              have V := (HXr.out.below HB6.out).below h
              exact ⟨V.cell 0, V.cell 1, V.cell 2⟩
            have hgt : Hid (∀ w', Below w6.heap.size w6 w' → (Instr.loadAt 39 (.pointer (some ⟨gt, 0, none⟩))).run Try.prog w' = .ok (.agg (lcells (JS.first p) 2 b3 n d3 b4 n d4)) w') := fun w' h => load_obj Try.underlying39 infoLS rfl (HT6.out.below h).at_
            have HRq := hide (HRr.out.below HB6.out)
            have HCq := hide (HCr.out.below HB6.out)
            go_upto_region 18 with fail
            go_cut [16] from 81 to 87 (fun x wx => ∃ g b5 d5 b6 d6, x = Value.pointer (some ⟨g, 0, none⟩) ∧ Hid (OAt wx g (lobj J 3 b5 n d5 b6 n d6) ∧ w6.heap.size ≤ g ∧ Below w6.heap.size w6 wx))
            case first =>
              have HB : Hid (Below w6.heap.size w6 w6.drew) := hide (Below.refl _ _).drew
              refine wp_region_noPanic ?_
              refine wp_region_held_drew (S := fun w' => Below w6.heap.size w6 w') (by kernel_rfl) HB.out (fun hHeld => ?_)
              replace HRq := hide (HRq.out.below HB.out)
              replace HCq := hide (HCq.out.below HB.out)
              replace K1 := hide (K1.out.below HB.out)
              replace K2 := hide (K2.out.below HB.out)
              generalize w6.drew = w0 at HB hHeld HRq HCq K1 K2 ⊢
              refine take_set (i := 0) (v := .agg #[.slice ao n d, .int .i64 S, .int .i64 B]) rfl rfl (by kernel_rfl) (by kernel_rfl) (by kernel_rfl) (fun _ _ _ h => h) (Or.inl ⟨by kernel_rfl, fun w' hSw => ?_⟩) hHeld ?_
              · have hl := hcq.out w' hSw; go_simp
              simp only [List.set_cons_succ, List.set_cons_zero]
              refine take_set (i := 1) (v := .agg (lcells (JS.first p) 2 b3 n d3 b4 n d4)) rfl rfl (by kernel_rfl) (by kernel_rfl) (by kernel_rfl) (fun _ _ _ h => h) (Or.inl ⟨by kernel_rfl, fun w' hSw => ?_⟩) hHeld ?_
              · exact run_load_whole 39 (.tmp 14) rfl _ _ rfl (hgt.out w' hSw)
              simp only [List.set_cons_succ, List.set_cons_zero]
              refine take_set (i := 2) (v := .pointer (some ⟨hc, 1, none⟩)) rfl rfl (by kernel_rfl) (by kernel_rfl) (by kernel_rfl) (fun _ _ _ h => h) (Or.inl ⟨by kernel_rfl, fun w' hSw => ?_⟩) hHeld ?_
              · go_simp
              simp only [List.set_cons_succ, List.set_cons_zero]
              refine take_set (i := 3) (v := .int .i64 S) rfl rfl (by kernel_rfl) (by kernel_rfl) (by kernel_rfl) (fun _ _ _ h => h) (Or.inl ⟨by kernel_rfl, fun w' hSw => ?_⟩) hHeld ?_
              · have hl := hcq.out w' hSw; go_simp
              simp only [List.set_cons_succ, List.set_cons_zero]
              refine take_set (i := 5) (v := chv 36 cap) rfl rfl (by kernel_rfl) (by kernel_rfl) (by kernel_rfl) (fun _ _ _ h => h) (Or.inl ⟨by kernel_rfl, fun w' hSw => ?_⟩) hHeld ?_
              · go_simp
              simp only [List.set_cons_succ, List.set_cons_zero]
              refine wpAnyH_ready (rs := [4, 7]) (by kernel_rfl) (by simp) ?_
              refine AllReadyH.cons (o := _) rfl (fun K hK => ?_) (AllReadyH.cons (o := _) rfl (fun K hK => ?_) (AllReadyH.nil))
              · go_simp
                refine (start_any 3 S w0 (by omega) hSi).mono ?_
                rintro eo wq1 ⟨rfl, hw0⟩
                rw [hst3.out]
                have hbel : Below w0.heap.size w0 wq1 := by rw [hw0]; exact Below.refl _ _
                clear hw0
                replace HRq := hide (HRq.out.below hbel)
                replace HCq := hide (HCq.out.below hbel)
                replace K1 := hide (K1.out.below hbel)
                replace K2 := hide (K2.out.below hbel)
                replace HB := hide (HB.out.trans (hbel.mono HB.out.size))
                have z1 : Hid (w0.heap.size ≤ wq1.heap.size) := hide hbel.size
                clear hbel 
                refine hK.out _ _ (HB.out) (fun hHeld => ?_)
                clear hK K
                refine wpAnyH_ready (rs := [6, 7]) (by kernel_rfl) (by simp) ?_
                refine AllReadyH.cons (o := _) rfl (fun K hK => ?_) (AllReadyH.cons (o := _) rfl (fun K hK => ?_) (AllReadyH.nil))
                · go_simp
                  refine (adv_led bs ⟨JS.first p, 2, List.replicate n false, vm⟩ 36 cap f ao n d S B b3 d3 b4 d4 (3 * S) wq1 HRq.out hu.out K1.out K2.out hn0 enters_law HCq.out h2e hSi h3i).mono ?_
                  rintro ea wq2 ⟨b1, d1, b2, d2, rfl, r1, r2, e1, e2, hbel⟩
                  rw [hend.out] at r1 r2 ⊢
                  replace HRq := hide (HRq.out.below hbel)
                  replace HCq := hide (HCq.out.below hbel)
                  replace K1 := hide (K1.out.below hbel)
                  replace K2 := hide (K2.out.below hbel)
                  replace HB := hide (HB.out.trans (hbel.mono HB.out.size))
                  have Q1 := hide (r1)
                  have Q2 := hide (r2)
                  have z2 : Hid (wq1.heap.size ≤ wq2.heap.size) := hide hbel.size
                  have N1 : Hid (∀ b off, b1 = some ⟨b, off, none⟩ → wq1.heap.size ≤ b ∧ b < wq2.heap.size) := hide (fun b off e => ⟨e1 b off e, r1.far (hn0.1) b off e⟩)
                  have N2 : Hid (∀ b off, b2 = some ⟨b, off, none⟩ → wq1.heap.size ≤ b ∧ b < wq2.heap.size) := hide (fun b off e => ⟨e2 b off e, r2.far (hn0.1) b off e⟩)
                  clear hbel r1 r2 e1 e2
                  refine hK.out _ _ (HB.out) (fun hHeld => ?_)
                  clear hK K
                  have hbel := below_alloc wq2 (lobj jz 0 none 0 0 none 0 0)
                  have HT := hide (OAt.new wq2 (lobj jz 0 none 0 0 none 0 0))
                  refine wpAnyH_ready (rs := [7]) (by kernel_rfl) (by simp) ?_
                  refine AllReadyH.cons (o := _) rfl (fun K hK => ?_) AllReadyH.nil
                  go_simp
                  refine hK.out _ _ (HB.out.trans (hbel.mono HB.out.size)) (fun hHeld => ?_)
                  clear hK K
                  have z3 : Hid ((wq2.alloc (lobj jz 0 none 0 0 none 0 0)).heap.size = wq2.heap.size + 1) := hide (by simp)
                  generalize wq2.alloc (lobj jz 0 none 0 0 none 0 0) = wq3 at hbel HT hHeld z3 ⊢
                  replace HRq := hide (HRq.out.below hbel)
                  replace HCq := hide (HCq.out.below hbel)
                  replace K1 := hide (K1.out.below hbel)
                  replace K2 := hide (K2.out.below hbel)
                  replace Q1 := hide (Q1.out.below hbel)
                  replace Q2 := hide (Q2.out.below hbel)
                  have HTs : Hid (w6.heap.size ≤ wq2.heap.size) := hide HB.out.size
                  replace HB := hide (HB.out.trans (hbel.mono HB.out.size))
                  clear hbel
                  obtain ⟨gT, gTe⟩ : ∃ x, Hid (wq2.heap.size = x) := ⟨_, rfl⟩
                  rw [gTe.out] at HT HTs ⊢
                  refine wpAnyH_ready (rs := [8]) (by kernel_rfl) (by simp) ?_
                  refine AllReadyH.cons (o := _) rfl (fun K hK => ?_) AllReadyH.nil
                  obtain ⟨wq4, hrun, hoS, haS⟩ := store_obj (P := Try.prog) (ty := 39) (n := 13) (cs := (lcells J 3 b1 n d1 b2 n d2).toList) infoLS rfl rfl (lcells_one _ _ _ _ _ _ _ _) HT.out.at_
                  have y1 := z1.out
                  have y2 := z2.out
                  have y3 := z3.out
                  have yT := HTs.out
                  have yg := gTe.out
                  refine step_store_at 39 (.tmp 16) (.tmp 87) rfl rfl _ _ rfl rfl wq4 hrun ?_
                  have HG := hide ((show OAt wq4 gT (.cells (lcells J 3 b1 n d1 b2 n d2) 39) from OAt.of hoS))
                  have K1 := hide (Q1.out.aside haS (fun b off e => by have := N1.out b off e; omega))
                  have K2 := hide (Q2.out.aside haS (fun b off e => by have := N2.out b off e; omega))
                  have HBB := hide (HB.out.trans (haS.old _ HB.out.size (by omega)))
                  have M1 := hide ((fun b off e => by have := N1.out b off e; omega : ∀ b off, b1 = some ⟨b, off, none⟩ → b ≠ gT))
                  have M2 := hide ((fun b off e => by have := N2.out b off e; omega : ∀ b off, b2 = some ⟨b, off, none⟩ → b ≠ gT))
                  refine hK.out _ _ ((HB.out.trans (haS.old _ HB.out.size (by omega)))) (fun hHeld => ?_)
                  clear hK K
                  refine wpAnyH_done (by kernel_rfl) ?_ _
                  refine NoPanic.normal ?_
                  go_wp2
                  go_meet
                  exact ⟨gT, b1, d1, b2, d2, rfl, hide ⟨HG.out, HTs.out, HBB.out⟩⟩
                · have hbel := below_alloc wq1 (lobj jz 0 none 0 0 none 0 0)
                  have HT := hide (OAt.new wq1 (lobj jz 0 none 0 0 none 0 0))
                  go_simp
                  refine hK.out _ _ (HB.out.trans (hbel.mono HB.out.size)) (fun hHeld => ?_)
                  clear hK K
                  have z2 : Hid ((wq1.alloc (lobj jz 0 none 0 0 none 0 0)).heap.size = wq1.heap.size + 1) := hide (by simp)
                  generalize wq1.alloc (lobj jz 0 none 0 0 none 0 0) = wq2 at hbel HT hHeld z2 ⊢
                  replace HRq := hide (HRq.out.below hbel)
                  replace HCq := hide (HCq.out.below hbel)
                  replace K1 := hide (K1.out.below hbel)
                  replace K2 := hide (K2.out.below hbel)
                  have HTs : Hid (w6.heap.size ≤ wq1.heap.size) := hide HB.out.size
                  replace HB := hide (HB.out.trans (hbel.mono HB.out.size))
                  clear hbel
                  obtain ⟨gT, gTe⟩ : ∃ x, Hid (wq1.heap.size = x) := ⟨_, rfl⟩
                  rw [gTe.out] at HT HTs ⊢
                  refine wpAnyH_ready (rs := [6]) (by kernel_rfl) (by simp) ?_
                  refine AllReadyH.cons (o := _) rfl (fun K hK => ?_) AllReadyH.nil
                  go_simp
                  refine (adv_led bs ⟨JS.first p, 2, List.replicate n false, vm⟩ 36 cap f ao n d S B b3 d3 b4 d4 (3 * S) wq2 HRq.out hu.out K1.out K2.out hn0 enters_law HCq.out h2e hSi h3i).mono ?_
                  rintro ea wq3 ⟨b1, d1, b2, d2, rfl, r1, r2, e1, e2, hbel⟩
                  rw [hend.out] at r1 r2 ⊢
                  replace HRq := hide (HRq.out.below hbel)
                  replace HCq := hide (HCq.out.below hbel)
                  replace K1 := hide (K1.out.below hbel)
                  replace K2 := hide (K2.out.below hbel)
                  replace HT := hide (HT.out.below hbel)
                  replace HB := hide (HB.out.trans (hbel.mono HB.out.size))
                  have Q1 := hide (r1)
                  have Q2 := hide (r2)
                  have z3 : Hid (wq2.heap.size ≤ wq3.heap.size) := hide hbel.size
                  have N1 : Hid (∀ b off, b1 = some ⟨b, off, none⟩ → wq2.heap.size ≤ b ∧ b < wq3.heap.size) := hide (fun b off e => ⟨e1 b off e, r1.far (hn0.1) b off e⟩)
                  have N2 : Hid (∀ b off, b2 = some ⟨b, off, none⟩ → wq2.heap.size ≤ b ∧ b < wq3.heap.size) := hide (fun b off e => ⟨e2 b off e, r2.far (hn0.1) b off e⟩)
                  clear hbel r1 r2 e1 e2
                  refine hK.out _ _ (HB.out) (fun hHeld => ?_)
                  clear hK K
                  refine wpAnyH_ready (rs := [8]) (by kernel_rfl) (by simp) ?_
                  refine AllReadyH.cons (o := _) rfl (fun K hK => ?_) AllReadyH.nil
                  obtain ⟨wq4, hrun, hoS, haS⟩ := store_obj (P := Try.prog) (ty := 39) (n := 13) (cs := (lcells J 3 b1 n d1 b2 n d2).toList) infoLS rfl rfl (lcells_one _ _ _ _ _ _ _ _) HT.out.at_
                  have y1 := z1.out
                  have y2 := z2.out
                  have y3 := z3.out
                  have yT := HTs.out
                  have yg := gTe.out
                  refine step_store_at 39 (.tmp 16) (.tmp 87) rfl rfl _ _ rfl rfl wq4 hrun ?_
                  have HG := hide ((show OAt wq4 gT (.cells (lcells J 3 b1 n d1 b2 n d2) 39) from OAt.of hoS))
                  have K1 := hide (Q1.out.aside haS (fun b off e => by have := N1.out b off e; omega))
                  have K2 := hide (Q2.out.aside haS (fun b off e => by have := N2.out b off e; omega))
                  have HBB := hide (HB.out.trans (haS.old _ HB.out.size (by omega)))
                  have M1 := hide ((fun b off e => by have := N1.out b off e; omega : ∀ b off, b1 = some ⟨b, off, none⟩ → b ≠ gT))
                  have M2 := hide ((fun b off e => by have := N2.out b off e; omega : ∀ b off, b2 = some ⟨b, off, none⟩ → b ≠ gT))
                  refine hK.out _ _ ((HB.out.trans (haS.old _ HB.out.size (by omega)))) (fun hHeld => ?_)
                  clear hK K
                  refine wpAnyH_done (by kernel_rfl) ?_ _
                  refine NoPanic.normal ?_
                  go_wp2
                  go_meet
                  exact ⟨gT, b1, d1, b2, d2, rfl, hide ⟨HG.out, HTs.out, HBB.out⟩⟩
              · have hbel := below_alloc w0 (lobj jz 0 none 0 0 none 0 0)
                have HT := hide (OAt.new w0 (lobj jz 0 none 0 0 none 0 0))
                go_simp
                refine hK.out _ _ (HB.out.trans (hbel.mono HB.out.size)) (fun hHeld => ?_)
                clear hK K
                have z1 : Hid ((w0.alloc (lobj jz 0 none 0 0 none 0 0)).heap.size = w0.heap.size + 1) := hide (by simp)
                generalize w0.alloc (lobj jz 0 none 0 0 none 0 0) = wq1 at hbel HT hHeld z1 ⊢
                replace HRq := hide (HRq.out.below hbel)
                replace HCq := hide (HCq.out.below hbel)
                replace K1 := hide (K1.out.below hbel)
                replace K2 := hide (K2.out.below hbel)
                have HTs : Hid (w6.heap.size ≤ w0.heap.size) := hide HB.out.size
                replace HB := hide (HB.out.trans (hbel.mono HB.out.size))
                clear hbel
                obtain ⟨gT, gTe⟩ : ∃ x, Hid (w0.heap.size = x) := ⟨_, rfl⟩
                rw [gTe.out] at HT HTs ⊢
                refine wpAnyH_ready (rs := [4]) (by kernel_rfl) (by simp) ?_
                refine AllReadyH.cons (o := _) rfl (fun K hK => ?_) AllReadyH.nil
                go_simp
                refine (start_any 3 S wq1 (by omega) hSi).mono ?_
                rintro eo wq2 ⟨rfl, hw0⟩
                rw [hst3.out]
                have hbel : Below wq1.heap.size wq1 wq2 := by rw [hw0]; exact Below.refl _ _
                clear hw0
                replace HRq := hide (HRq.out.below hbel)
                replace HCq := hide (HCq.out.below hbel)
                replace K1 := hide (K1.out.below hbel)
                replace K2 := hide (K2.out.below hbel)
                replace HT := hide (HT.out.below hbel)
                replace HB := hide (HB.out.trans (hbel.mono HB.out.size))
                have z2 : Hid (wq1.heap.size ≤ wq2.heap.size) := hide hbel.size
                clear hbel 
                refine hK.out _ _ (HB.out) (fun hHeld => ?_)
                clear hK K
                refine wpAnyH_ready (rs := [6]) (by kernel_rfl) (by simp) ?_
                refine AllReadyH.cons (o := _) rfl (fun K hK => ?_) AllReadyH.nil
                go_simp
                refine (adv_led bs ⟨JS.first p, 2, List.replicate n false, vm⟩ 36 cap f ao n d S B b3 d3 b4 d4 (3 * S) wq2 HRq.out hu.out K1.out K2.out hn0 enters_law HCq.out h2e hSi h3i).mono ?_
                rintro ea wq3 ⟨b1, d1, b2, d2, rfl, r1, r2, e1, e2, hbel⟩
                rw [hend.out] at r1 r2 ⊢
                replace HRq := hide (HRq.out.below hbel)
                replace HCq := hide (HCq.out.below hbel)
                replace K1 := hide (K1.out.below hbel)
                replace K2 := hide (K2.out.below hbel)
                replace HT := hide (HT.out.below hbel)
                replace HB := hide (HB.out.trans (hbel.mono HB.out.size))
                have Q1 := hide (r1)
                have Q2 := hide (r2)
                have z3 : Hid (wq2.heap.size ≤ wq3.heap.size) := hide hbel.size
                have N1 : Hid (∀ b off, b1 = some ⟨b, off, none⟩ → wq2.heap.size ≤ b ∧ b < wq3.heap.size) := hide (fun b off e => ⟨e1 b off e, r1.far (hn0.1) b off e⟩)
                have N2 : Hid (∀ b off, b2 = some ⟨b, off, none⟩ → wq2.heap.size ≤ b ∧ b < wq3.heap.size) := hide (fun b off e => ⟨e2 b off e, r2.far (hn0.1) b off e⟩)
                clear hbel r1 r2 e1 e2
                refine hK.out _ _ (HB.out) (fun hHeld => ?_)
                clear hK K
                refine wpAnyH_ready (rs := [8]) (by kernel_rfl) (by simp) ?_
                refine AllReadyH.cons (o := _) rfl (fun K hK => ?_) AllReadyH.nil
                obtain ⟨wq4, hrun, hoS, haS⟩ := store_obj (P := Try.prog) (ty := 39) (n := 13) (cs := (lcells J 3 b1 n d1 b2 n d2).toList) infoLS rfl rfl (lcells_one _ _ _ _ _ _ _ _) HT.out.at_
                have y1 := z1.out
                have y2 := z2.out
                have y3 := z3.out
                have yT := HTs.out
                have yg := gTe.out
                refine step_store_at 39 (.tmp 16) (.tmp 87) rfl rfl _ _ rfl rfl wq4 hrun ?_
                have HG := hide ((show OAt wq4 gT (.cells (lcells J 3 b1 n d1 b2 n d2) 39) from OAt.of hoS))
                have K1 := hide (Q1.out.aside haS (fun b off e => by have := N1.out b off e; omega))
                have K2 := hide (Q2.out.aside haS (fun b off e => by have := N2.out b off e; omega))
                have HBB := hide (HB.out.trans (haS.old _ HB.out.size (by omega)))
                have M1 := hide ((fun b off e => by have := N1.out b off e; omega : ∀ b off, b1 = some ⟨b, off, none⟩ → b ≠ gT))
                have M2 := hide ((fun b off e => by have := N2.out b off e; omega : ∀ b off, b2 = some ⟨b, off, none⟩ → b ≠ gT))
                refine hK.out _ _ ((HB.out.trans (haS.old _ HB.out.size (by omega)))) (fun hHeld => ?_)
                clear hK K
                refine wpAnyH_done (by kernel_rfl) ?_ _
                refine NoPanic.normal ?_
                go_wp2
                go_meet
                exact ⟨gT, b1, d1, b2, d2, rfl, hide ⟨HG.out, HTs.out, HBB.out⟩⟩
            case rest =>
              obtain ⟨gn, b5, d5, b6, d6, rfl, hcc⟩ := hcut
              obtain ⟨hN, hgn, hbel⟩ := hcc.out
              have HBf := hide (HB6.out.trans (hbel.mono HB6.out.size))
              have HRf := hide (HRr.out.below HBf.out)
              have HWf := hide (HWr.out.below HBf.out)
              have HCf := hide (HCr.out.below HBf.out)
              have HNf := hide (HNr.out.trans (HBf.out.mono HNr.out.size))
              obtain ⟨j1, j2, j3⟩ := hJc.out
              have hfs : Hid (∀ w', Below wc.heap.size wc w' → w'.cell? ⟨hc, 0, none⟩ = some (.slice ao n d) ∧ w'.cell? ⟨hc, 1, none⟩ = some (.int .i64 S) ∧ w'.cell? ⟨hc, 2, none⟩ = some (.int .i64 B) ∧ w'.cell? ⟨gs, 6, none⟩ = some (.int .i64 0) ∧ w'.cell? ⟨gs, 7, none⟩ = some (.int .u64 p) ∧ w'.cell? ⟨gn, 0, none⟩ = some (.bool K) ∧ w'.cell? ⟨gn, 6, none⟩ = some (.int .i64 (bif K then 2 else 0)) ∧ w'.cell? ⟨gn, 7, none⟩ = some (.int .u64 (bif K then f2 else p))) := fun w' h => by
                have V := (HXr.out.below HBf.out).below h
                have U := (HGr.out.below HBf.out).below h
                have T := hN.below h
                have t0 := T.cell 0
                have t6 := T.cell 6
                have t7 := T.cell 7
                simp only [List.getElem?_toArray, List.getElem?_cons_zero, List.getElem?_cons_succ] at t0 t6 t7
                rw [j1] at t0
                rw [j2] at t6
                rw [j3] at t7
                exact ⟨V.cell 0, V.cell 1, V.cell 2, U.cell 6, U.cell 7, t0, t6, t7⟩
              clear hcc hN hgn hbel hcq hgt HRq HCq hJc j1 j2 j3 HRr HWr HCr HNr HB6 HXr HGr HR1r HR2r hcs HBf K1 K2 HT6
              go_upto_region 19 with fail
              refine startG (fun w' => Below wc.heap.size wc w') 6 (by kernel_rfl) (Below.refl _ _).drew ?_
              refine takeG (i := 0) (v := .agg #[.slice ao n d, .int .i64 S, .int .i64 B]) rfl rfl (by kernel_rfl) (by kernel_rfl) (by kernel_rfl) (by kernel_rfl) (fun _ _ _ h => h) (Or.inl ⟨by kernel_rfl, fun w' hSw => Or.inl ⟨w', ?_, hSw⟩⟩) ?_
              · have hl := hfs.out w' hSw; go_simp
              simp only [List.set_cons_succ, List.set_cons_zero]
              refine takeG (i := 1) (v := .slice ai m di) rfl rfl (by kernel_rfl) (by kernel_rfl) (by kernel_rfl) (by kernel_rfl) (fun _ _ _ h => h) (Or.inl ⟨by kernel_rfl, fun w' hSw => Or.inl ⟨w', ?_, hSw⟩⟩) ?_
              · go_simp
              simp only [List.set_cons_succ, List.set_cons_zero]
              refine takeG (i := 2) (v := .int .u64 s1) rfl rfl (by kernel_rfl) (by kernel_rfl) (by kernel_rfl) (by kernel_rfl) (fun _ _ _ h => h) (Or.inl ⟨by kernel_rfl, fun w' hSw => doesOf rfl (by kernel_rfl) fun K hK => ?_⟩) ?_
              · go_simp
                refine (sum_any bs who _ _ _ _ _ _ _ _ _ (HRf.out.below hSw) (HWf.out.below hSw)).mono ?_
                rintro e w2 ⟨rfl, rfl⟩
                rw [hs1.out]
                exact hK.out _ (hSw.alloc hSw.size _)
              simp only [List.set_cons_succ, List.set_cons_zero]
              refine takeG (i := 3) (v := .agg #[.slice ao n d, .int .i64 S, .int .i64 B]) rfl rfl (by kernel_rfl) (by kernel_rfl) (by kernel_rfl) (by kernel_rfl) (fun _ _ _ h => h) (Or.inl ⟨by kernel_rfl, fun w' hSw => Or.inl ⟨w', ?_, hSw⟩⟩) ?_
              · have hl := hfs.out w' hSw; go_simp
              simp only [List.set_cons_succ, List.set_cons_zero]
              refine takeG (i := 4) (v := .int .u64 t1) rfl rfl (by kernel_rfl) (by kernel_rfl) (by kernel_rfl) (by kernel_rfl) (fun _ _ _ h => h) (Or.inl ⟨by kernel_rfl, fun w' hSw => doesOf rfl (by kernel_rfl) fun K hK => ?_⟩) ?_
              · go_simp
                refine (total_any bs _ _ _ _ _ _ (HRf.out.below hSw)).mono ?_
                rintro e w2 ⟨rfl, rfl⟩
                rw [ht1.out]
                exact hK.out _ (hSw.alloc hSw.size _)
              simp only [List.set_cons_succ, List.set_cons_zero]
              refine takeG (i := 5) (v := .bool K) rfl rfl (by kernel_rfl) (by kernel_rfl) (by kernel_rfl) (by kernel_rfl) (fun _ _ _ h => h) (Or.inl ⟨by kernel_rfl, fun w' hSw => doesOf rfl (by kernel_rfl) fun K hK => ?_⟩) ?_
              · go_simp
                refine (enough_any _ _ _ hsb htb).mono ?_
                rintro e w2 ⟨rfl, hw⟩
                rw [hKs.out]
                exact hK.out _ (by rw [hw]; exact hSw)
              simp only [List.set_cons_succ, List.set_cons_zero]
              refine doneG (by kernel_rfl) fun w' hSw => ?_
              have hSd := hide hSw
              clear hSw
              cases K
              · have q := hfs.out _ hSd.out
                simp only [cond_false] at q
                replace HNf := hide (HNf.out.trans (hSd.out.mono HNf.out.size))
                clear hfs hSd
                go_wp2
                go_ret
                exact ⟨rfl, HNf.out⟩
              · have hft : Hid (∀ w'', Below w'.heap.size w' w'' → w''.cell? ⟨hc, 0, none⟩ = some (.slice ao n d) ∧ w''.cell? ⟨hc, 1, none⟩ = some (.int .i64 S) ∧ w''.cell? ⟨hc, 2, none⟩ = some (.int .i64 B) ∧ w''.cell? ⟨gn, 0, none⟩ = some (.bool true) ∧ w''.cell? ⟨gn, 6, none⟩ = some (.int .i64 2) ∧ w''.cell? ⟨gn, 7, none⟩ = some (.int .u64 f2)) := fun w'' h => by
                  have q := hfs.out _ (hSd.out.trans (h.mono hSd.out.size))
                  exact ⟨q.1, q.2.1, q.2.2.1, q.2.2.2.2.2.1, q.2.2.2.2.2.2.1, q.2.2.2.2.2.2.2⟩
                have HCg := hide (HCf.out.below hSd.out)
                replace HNf := hide (HNf.out.trans (hSd.out.mono HNf.out.size))
                clear hfs hSd HCf
                go_upto_region 20 with fail
                generalize w' = W9 at *
                refine startG (fun w' => Below W9.heap.size W9 w') 14 (by kernel_rfl) (Below.refl _ _).drew ?_
                refine takeG (i := 0) (v := .pointer (some ⟨gn, 0, none⟩)) rfl rfl (by kernel_rfl) (by kernel_rfl) (by kernel_rfl) (by kernel_rfl) (fun _ _ _ h => h) (Or.inl ⟨by kernel_rfl, fun w' hSw => Or.inl ⟨w', ?_, hSw⟩⟩) ?_
                · go_simp
                simp only [List.set_cons_succ, List.set_cons_zero]
                refine takeG (i := 1) (v := .pointer (some ⟨gn, 6, none⟩)) rfl rfl (by kernel_rfl) (by kernel_rfl) (by kernel_rfl) (by kernel_rfl) (fun _ _ _ h => h) (Or.inl ⟨by kernel_rfl, fun w' hSw => Or.inl ⟨w', ?_, hSw⟩⟩) ?_
                · go_simp
                simp only [List.set_cons_succ, List.set_cons_zero]
                refine takeG (i := 2) (v := .agg (pcells 2 f2)) rfl rfl (by kernel_rfl) (by kernel_rfl) (by kernel_rfl) (by kernel_rfl) (fun _ _ _ h => h) (Or.inl ⟨by kernel_rfl, fun w' hSw => Or.inl ⟨w', ?_, hSw⟩⟩) ?_
                · have hl := hft.out w' hSw; go_simp
                simp only [List.set_cons_succ, List.set_cons_zero]
                refine takeG (i := 3) (v := .agg #[.slice ao n d, .int .i64 S, .int .i64 B]) rfl rfl (by kernel_rfl) (by kernel_rfl) (by kernel_rfl) (by kernel_rfl) (fun _ _ _ h => h) (Or.inl ⟨by kernel_rfl, fun w' hSw => Or.inl ⟨w', ?_, hSw⟩⟩) ?_
                · have hl := hft.out w' hSw; go_simp
                simp only [List.set_cons_succ, List.set_cons_zero]
                refine takeG (i := 4) (v := chv 36 cap) rfl rfl (by kernel_rfl) (by kernel_rfl) (by kernel_rfl) (by kernel_rfl) (fun _ _ _ h => h) (Or.inl ⟨by kernel_rfl, fun w' hSw => Or.inl ⟨w', ?_, hSw⟩⟩) ?_
                · go_simp
                simp only [List.set_cons_succ, List.set_cons_zero]
                refine takeG (i := 5) (v := .agg (pcells 2 f2)) rfl rfl (by kernel_rfl) (by kernel_rfl) (by kernel_rfl) (by kernel_rfl) (fun _ _ _ h => h) (Or.inl ⟨by kernel_rfl, fun w' hSw => doesOf rfl (by kernel_rfl) fun K hK => ?_⟩) ?_
                · go_simp
                  refine (point_law 36 cap f ao n d S B 2 _ enters_law (HCg.out.below hSw) h2e hSi).mono ?_
                  rintro e w2 ⟨rfl, hb⟩
                  rw [hf2.out]
                  exact hK.out _ (hSw.trans (hb.mono hSw.size))
                simp only [List.set_cons_succ, List.set_cons_zero]
                refine takeG (i := 6) (v := .bool true) rfl rfl (by kernel_rfl) (by kernel_rfl) (by kernel_rfl) (by kernel_rfl) (fun _ _ _ h => h) (Or.inl ⟨by kernel_rfl, fun w' hSw => Or.inl ⟨w', ?_, hSw⟩⟩) ?_
                · go_simp
                simp only [List.set_cons_succ, List.set_cons_zero]
                refine takeG (i := 7) (v := .bool true) rfl rfl (by kernel_rfl) (by kernel_rfl) (by kernel_rfl) (by kernel_rfl) (fun _ _ _ h => h) (Or.inl ⟨by kernel_rfl, fun w' hSw => Or.inl ⟨w', ?_, hSw⟩⟩) ?_
                · go_simp
                simp only [List.set_cons_succ, List.set_cons_zero]
                refine takeG (i := 8) (v := .pointer (some ⟨gn, 0, none⟩)) rfl rfl (by kernel_rfl) (by kernel_rfl) (by kernel_rfl) (by kernel_rfl) (fun _ _ _ h => h) (Or.inl ⟨by kernel_rfl, fun w' hSw => Or.inl ⟨w', ?_, hSw⟩⟩) ?_
                · go_simp
                simp only [List.set_cons_succ, List.set_cons_zero]
                refine takeG (i := 9) (v := .pointer (some ⟨gn, 0, none⟩)) rfl rfl (by kernel_rfl) (by kernel_rfl) (by kernel_rfl) (by kernel_rfl) (fun _ _ _ h => h) (Or.inl ⟨by kernel_rfl, fun w' hSw => Or.inl ⟨w', ?_, hSw⟩⟩) ?_
                · go_simp
                simp only [List.set_cons_succ, List.set_cons_zero]
                refine takeG (i := 10) (v := .pointer (some ⟨gn, 0, none⟩)) rfl rfl (by kernel_rfl) (by kernel_rfl) (by kernel_rfl) (by kernel_rfl) (fun _ _ _ h => h) (Or.inl ⟨by kernel_rfl, fun w' hSw => Or.inl ⟨w', ?_, hSw⟩⟩) ?_
                · go_simp
                simp only [List.set_cons_succ, List.set_cons_zero]
                refine takeG (i := 11) (v := .bool true) rfl rfl (by kernel_rfl) (by kernel_rfl) (by kernel_rfl) (by kernel_rfl) (fun _ _ _ h => h) (Or.inl ⟨by kernel_rfl, fun w' hSw => Or.inl ⟨w', ?_, hSw⟩⟩) ?_
                · have hl := hft.out w' hSw; go_simp
                simp only [List.set_cons_succ, List.set_cons_zero]
                refine takeG (i := 12) (v := .bool true) rfl rfl (by kernel_rfl) (by kernel_rfl) (by kernel_rfl) (by kernel_rfl) (fun _ _ _ h => h) (Or.inl ⟨by kernel_rfl, fun w' hSw => Or.inl ⟨w', ?_, hSw⟩⟩) ?_
                · go_simp
                simp only [List.set_cons_succ, List.set_cons_zero]
                refine takeG (i := 13) (v := .bool true) rfl rfl (by kernel_rfl) (by kernel_rfl) (by kernel_rfl) (by kernel_rfl) (fun _ _ _ h => h) (Or.inl ⟨by kernel_rfl, fun w' hSw => Or.inl ⟨w', ?_, hSw⟩⟩) ?_
                · go_simp
                simp only [List.set_cons_succ, List.set_cons_zero]
                refine doneG (by kernel_rfl) fun w' hSw => ?_
                replace HNf := hide (HNf.out.trans (Below.mono hSw HNf.out.size))
                clear hSw hft
                go_wp2
                go_ret
                exact ⟨rfl, HNf.out⟩

set_option maxRecDepth 100000 in
theorem lifted (os : Os) (started : os.Started) (H : Type) (enc : TypeId × Value → H) :
    ReturnsInHanded {} Try.checked os 5 .any (Rows.ledgerMostSpec.pre6 enc Try.prog Try.f5 Rows.ledgerMostRow.domain false) (Rows.ledgerMostSpec.post enc Try.prog Try.f5 false true false false) := by
  refine returnsInHanded_of_change (C := Try.checked) own started (by kernel_rfl) Try.func5
    (ChangeSpec.witness6 (enc := enc) (C := Try.checked) false ⟨#[], #[.agg #[.slice none 0 0, .int .i64 0, .int .i64 0], .int .u8 0, .int .u16 0], []⟩ 8 (by kernel_rfl) (by kernel_rfl) (by kernel_rfl) (by kernel_rfl)) ?_
  intro W base args ds gs before hval0 hW hcnd _
  have hval : ∀ (j : Nat) t v, Try.f5.params[j]? = some t → args[j]? = some v → Value.okWide Try.prog W .any base t v := hval0
  have hW' := hW
  obtain ⟨p, q, hA0, hV, rfl, hfz, hnd⟩ := hW
  have hA : DataW.TrodAll enc Try.prog W 0 (fun _ => true) true Try.f5.params.toList args.toList ds p := hA0
  rw [Try.params5] at hA hval
  obtain ⟨v0, vs0, d0, ds0, p0, q0, hargs, rfl, rfl, h0, r0⟩ := trodAll_cons hA
  obtain ⟨v1, vs1, d1, ds1, p1, q1, rfl, rfl, rfl, h1, r1⟩ := trodAll_cons r0
  obtain ⟨v2, vs2, d2, ds2, p2, q2, rfl, rfl, rfl, h2, r2⟩ := trodAll_cons r1
  obtain ⟨rfl, rfl, rfl⟩ := trodAll_nil r2
  obtain rfl : args = #[v0, v1, v2] := by cases args; simp_all
  obtain ⟨rfl, rfl⟩ := trodVars_none hV
  obtain ⟨cs0, rfl, sz0⟩ := okWide_struct Try.underlying24 (hval 0 24 v0 rfl rfl)
  rw [cells24] at sz0
  obtain ⟨l0⟩ := cs0
  obtain ⟨c0_0, c0_1, c0_2, rfl⟩ := list3 (show l0.length = 3 from sz0)
  clear sz0
  have k0 := h0
  have lt0 : ∀ x ∈ p0, x.block < W.heap.size := by obtain ⟨m, hm⟩ := k0; exact DataW.trod_lt m _ _ _ hm
  obtain ⟨fuel0, hf0⟩ := h0
  simp only [Value.cells] at hf0
  obtain ⟨xs0_0t24, n0_0t24, _, hx0_0t24, _, hlen0_0t24, hf0_0t24⟩ := DataW.trod_struct Try.underlying24 hf0
  obtain ⟨y0_0t24_0, y0_0t24_1, y0_0t24_2, rfl⟩ := list3 (show xs0_0t24.length = 3 from hlen0_0t24)
  have hy0_0t24_0 : DataW.trod enc Try.prog W 0 (fun _ => true) true n0_0t24 22 [c0_0] = some y0_0t24_0 := by simpa [Value.cells, cells3, cells4, cells5, cells22, cells24, cells32, cells57] using hf0_0t24 0 _ rfl
  have hy0_0t24_1 : DataW.trod enc Try.prog W 0 (fun _ => true) true n0_0t24 3 [c0_1] = some y0_0t24_1 := by simpa [Value.cells, cells3, cells4, cells5, cells22, cells24, cells32, cells57] using hf0_0t24 1 _ rfl
  have hy0_0t24_2 : DataW.trod enc Try.prog W 0 (fun _ => true) true n0_0t24 3 [c0_2] = some y0_0t24_2 := by simpa [Value.cells, cells3, cells4, cells5, cells22, cells24, cells32, cells57] using hf0_0t24 2 _ rfl
  obtain ⟨a0_0, len0_0, cap0_0, z0_0, e0_0, w0_0⟩ : ∃ a len cap zs, c0_0 = .slice a len cap ∧ IsRow .u64 W a len cap zs := by
    rcases open_ints Try.underlying22 Try.underlying32 (by kernel_rfl) hy0_0t24_0 with ⟨hcs, _⟩ | ⟨x, l, c, zs, hcs, _, hl, hm, hz, _, hcell, hwz⟩
    · simp at hcs
      exact ⟨none, 0, 0, [], hcs, .inl ⟨rfl, rfl, rfl, rfl⟩⟩
    · simp at hcs
      exact ⟨_, _, _, zs, hcs, .inr ⟨_, rfl, hl, hm, by simpa using hz, hcell, hwz⟩⟩
  subst e0_0
  obtain ⟨a0_1, e0_1, x0_1, w0_1⟩ := DataW.trod_int Try.underlying3 hy0_0t24_1
  simp at e0_1
  subst e0_1
  obtain ⟨a0_2, e0_2, x0_2, w0_2⟩ := DataW.trod_int Try.underlying3 hy0_0t24_2
  simp at e0_2
  subst e0_2
  obtain ⟨a1, rfl, rfl, rfl, w1⟩ := open_int Try.underlying5 (hval 1 5 v1 rfl rfl) h1
  obtain ⟨a2, rfl, rfl, rfl, w2⟩ := open_int Try.underlying57 (hval 2 57 v2 rfl rfl) h2
  clear hA0 hval0
  refine (walk a0_0 len0_0 cap0_0 z0_0 a0_1 a0_2 a1 a2 W w0_0 w0_1 w0_2 w1 w2).mono fun e W' ⟨he, bel⟩ => ?_
  subst he
  exact ⟨_, rfl, _, _, _, [], _, [], hW', trodAll_mk1 (shut_bool Try.underlying4 _), (trodAll_cons_mk (Below.trod laidOut (by kernel_rfl) (of_decide_eq_true (by kernel_rfl)) k0 bel lt0) (trodAll_cons_mk (shut_int Try.underlying5 w1) (trodAll_cons_mk (shut_int Try.underlying57 w2) trodAll_mk0))), rfl, bel.frame _, fun h => by cases h⟩

theorem over : Rows.ledgerMostRow.holds Try.pinned (OpenSpec.ofChange Rows.ledgerMostSpec) :=
  OpenClaim.holds_of_wide 5 Try.f5 rfl rfl rfl rfl rfl rfl rfl ⟨rfl, rfl, rfl, rfl, rfl⟩ rfl rfl rfl rfl rfl (by kernel_rfl) Try.func5 (by kernel_rfl)
    (of_decide_eq_true (by kernel_rfl)) (by unfold Func.isWrapper; first | (rw [if_pos (by decide +kernel)]; kernel_rfl) | (rw [if_neg (by decide +kernel)]; exact ⟨rfl, rfl⟩))
    (fun os started H enc _ => lifted os started H enc)

theorem proved : Rows.LedgerMostSaid := over
end Go.Proofs.Ytedpieepfbcboaa.ledgerMost

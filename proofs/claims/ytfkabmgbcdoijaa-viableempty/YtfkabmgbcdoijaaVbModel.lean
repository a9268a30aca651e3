/- Contract of psephoslaw13.May, of a model. -/
import Derived.Test.YtfkabmgbcdoijaaVbView

namespace Go.Proofs.Ytfkabmgbcdoijaa

open Go.ChangeShapes Go.WideShapes Go.ChangeAt Go.RowKit Go.Maps

set_option linter.unusedVariables false

/-- does one of the first k blocks stand on it at once? -/
def knB (bs : List TBlk) (q k : Nat) : Bool := (List.range k).any fun j => decide (0 < j) && decide ((tb bs j).par = q)
theorem knB_iff {bs : List TBlk} {q k : Nat} : knB bs q k = true ↔ ∃ j, 0 < j ∧ j < k ∧ (tb bs j).par = q := by
  unfold knB
  rw [List.any_eq_true]
  constructor
  · rintro ⟨j, hj, h⟩
    simp only [Bool.and_eq_true, decide_eq_true_eq] at h
    exact ⟨j, h.1, List.mem_range.1 hj, h.2⟩
  · rintro ⟨j, h0, hj, hp⟩
    exact ⟨j, List.mem_range.2 hj, by simp [h0, hp]⟩
theorem knB_one (bs : List TBlk) (q : Nat) : knB bs q 1 = false := by
  cases h : knB bs q 1 with
  | false => rfl
  | true => obtain ⟨j, h0, h1, _⟩ := knB_iff.1 h; omega
theorem knB_hit {bs : List TBlk} {q k : Nat} (h0 : 0 < k) (h : (tb bs k).par = q) : knB bs q (k + 1) = true := knB_iff.2 ⟨k, h0, by omega, h⟩
theorem knB_miss {bs : List TBlk} {q k : Nat} (h : (tb bs k).par ≠ q) : knB bs q (k + 1) = knB bs q k := by
  apply Bool.eq_iff_iff.2
  rw [knB_iff, knB_iff]
  constructor
  · rintro ⟨j, h0, hj, hp⟩
    refine ⟨j, h0, ?_, hp⟩
    rcases Nat.lt_or_ge j k with h1 | h1
    · exact h1
    · have : j = k := by omega
      subst this; exact absurd hp h
  · rintro ⟨j, h0, hj, hp⟩
    exact ⟨j, h0, by omega, hp⟩
theorem lf_kn {bs : List TBlk} (h : TOk bs) {q : Nat} (hq : q < bs.length) : lf bs q = !knB bs q bs.length := by
  apply Bool.eq_iff_iff.2
  rw [lf_iff h hq, Bool.not_eq_true', ← Bool.not_eq_true, knB_iff]
/-- none of the first k that stand on it may -/
def NoM (bs : List TBlk) (ok : Int → Bool) (q k : Nat) : Prop := ∀ j, 0 < j → j < k → (tb bs j).par = q → ldB bs ok j = false
theorem NoM.next {bs : List TBlk} {ok : Int → Bool} {q k : Nat} (h : NoM bs ok q k) (hk : (tb bs k).par = q → ldB bs ok k = false) : NoM bs ok q (k + 1) := fun j h0 hj hp => by
  rcases Nat.lt_or_ge j k with h1 | h1
  · exact h j h0 h1 hp
  · have : j = k := by omega
    subst this; exact hk hp
theorem NoM.all {bs : List TBlk} {ok : Int → Bool} {q : Nat} (hO : TOk bs) (hq : q < bs.length) (h : NoM bs ok q bs.length) : ldB bs ok q = (lf bs q && ok (tb bs q).root) := by
  apply Bool.eq_iff_iff.2
  rw [ldB_rec hO ok hq, Bool.and_eq_true]
  constructor
  · rintro (h1 | ⟨j, h0, hj, hp, hm⟩)
    · exact h1
    · rw [h j h0 hj hp] at hm; cases hm
  · exact .inl
theorem ldB_kid {bs : List TBlk} (hO : TOk bs) {ok : Int → Bool} {q k : Nat} (hq : q < bs.length) (h0 : 0 < k) (hk : k < bs.length) (hp : (tb bs k).par = q) (hm : ldB bs ok k = true) : ldB bs ok q = true := (ldB_rec hO ok hq).2 (.inr ⟨k, h0, hk, hp, hm⟩)

set_option maxRecDepth 100000 in
set_option maxHeartbeats 4000000 in
theorem lawmay_any {bs : List TBlk} {ms : List Nod} (hO : TOk bs) (hMo : MOf bs ms) {fr ep : Int} {f : Int → Option Nat} (hep : I64 ep) (hf : ∀ r, (f r).getD 0 ≤ 4294967296) (a : Option Addr) (m c : Nat) (sv : Value) (je jr fe : Int) (hm : m = bs.length) : ∀ (d q : Nat) (w : World), bs.length - q ≤ d → q < bs.length →
    NRow w a m ms → SrcAt w sv f →
    Calls Try.prog 13 #[.slice a m c, .agg (vwC je jr fe fr ep sv), .int .u64 (tb bs q).root] w fun e w' => e = .returned (.bool (ldB bs (okV bs je fr ep f) q)) ∧ Below w.heap.size w w' := by
  intro d
  induction d with
  | zero => intro q w h1 h2; omega
  | succ d ih =>
  intro q w hd hq hN hS
  obtain ⟨ng, no, rfl, hng, _⟩ := hN.2 (by omega)
  have HIH := hide ih
  have HN := hide (hN.alloc (vwO je jr fe fr ep sv))
  have HS := hide (hS.below (below_alloc w (vwO je jr fe fr ep sv)))
  have HX := hide (OAt.new w (vwO je jr fe fr ep sv))
  have HB := hide ((Below.refl w.heap.size w).alloc (Nat.le_refl _) (vwO je jr fe fr ep sv))
  have HO := hide hO
  have HMo := hide hMo
  have HF := hide hf
  have hml := hide hm
  have hm1 : 1 ≤ m := by omega
  have hm2 : m ≤ 1024 := by have := hO.lim; omega
  obtain ⟨r, hr⟩ : ∃ r, Hid ((tb bs q).root = r) := ⟨_, rfl⟩
  obtain ⟨ok, hok⟩ : ∃ ok, Hid (okV bs je fr ep f = ok) := ⟨_, rfl⟩
  obtain ⟨Ans, hAns⟩ : ∃ B, Hid (ldB bs ok q = B) := ⟨_, rfl⟩
  rw [hr.out, hok.out, hAns.out]
  rw [hok.out] at HIH
  clear ih hN hS hf hm hO hMo
  go_enter Try.func13, Try.ntmps13
  go_wp2
  generalize w.alloc (vwO je jr fe fr ep sv) = W at HN HS HX HB ⊢
  obtain ⟨gx, hgx⟩ : ∃ x, Hid (w.heap.size = x) := ⟨_, rfl⟩
  rw [hgx.out] at HX ⊢
  go_loopw [7, 8] (fun lv kv wr => ∃ k : Nat, kv = .int .i64 (k : Int) ∧ 1 ≤ k ∧ k ≤ m ∧ ∃ L, lv = .bool L ∧ Hid (L = (!knB bs q k) ∧ NoM bs ok q k ∧ Below W.heap.size W wr)) (fun _ kv _ => m - (intOf kv).toNat)
  case atStart => exact ⟨1, rfl, Nat.le_refl _, hm1, true, rfl, hide ⟨by rw [knB_one]; rfl, fun j h0 h1 => by omega, Below.refl _ _⟩⟩
  case round =>
    obtain ⟨k, rfl, hk1, hkm, L, rfl, hI⟩ := hrel
    have HL := hide hI.out.1
    have HNo := hide hI.out.2.1
    have HBW := hide hI.out.2.2
    clear hI
    by_cases hlt : k < m
    · obtain ⟨ng2, no2, e2, hng2, hcn2⟩ := (HN.out.below HBW.out).2 (by omega)
      cases e2
      have hc0 := hcn2 k hlt 0 (by omega)
      have hc1 := hcn2 k hlt 1 (by omega)
      have hkb : k < bs.length := by have := hml.out; omega
      have hpar := HMo.out.par k (by omega) hkb
      have hroot := HMo.out.root k hkb
      simp only [nC, List.getElem?_cons_zero, List.getElem?_cons_succ, Nat.add_zero] at hc0 hc1
      rw [hroot] at hc0
      rw [hpar] at hc1
      clear hcn2
      have hpl := HO.out.par_le hkb
      have hkl : (k : Int) < (m : Int) := by omega
      have hpk := HO.out.par k (by omega) hkb
      by_cases hp : (tb bs k).par = q
      · have hpr : (tb bs (tb bs k).par).root = r := by rw [hp]; exact hr.out
        rw [hpr] at hc1
        have HSB := hide (HS.out.below HBW.out)
        have LD := hide (fun w' (h : Below wr.heap.size wr w') => load_obj Try.underlying34 infoV rfl ((HX.out.below HBW.out).below h).at_)
        have HC := hide (fun w' (h : Below wr.heap.size wr w') => HIH.out k w' (by omega) hkb ((HN.out.below HBW.out).below h) ((HS.out.below HBW.out).below h))
        have hBk := hide (ldB_kid HO.out (ok := ok) hq (by omega) hkb hp)
        have hNo := hide (HNo.out.next (k := k))
        have hkn := hide (knB_hit (bs := bs) (q := q) (k := k) (by omega) hp)
        generalize ldB bs ok k = B at HC hBk hNo
        generalize (tb bs k).root = x at hc0 HC
        have HC0 := hide (fun w' (h : Below wr.heap.size wr w') => show w'.cell? ⟨ng, no + k * 3, none⟩ = some (.int .u64 x) from (h.cell (p := ⟨ng, no + k * 3, none⟩) hng2).trans hc0)
        clear HIH HF HMo hpar hroot hpr hpl hpk
        go_upto_region 7 with fail
        refine startG (fun w' => Below wr.heap.size wr w') 8 (by kernel_rfl) (Below.refl _ _).drew ?_
        refine takeG (i := 0) (v := .slice (some ⟨ng, no, none⟩) m c) rfl rfl (by kernel_rfl) (by kernel_rfl) (by kernel_rfl) (by kernel_rfl) (fun _ _ _ h => h) (Or.inl ⟨by kernel_rfl, fun w' hSw => Or.inl ⟨w', ?_, hSw⟩⟩) ?_
        · go_simp
        simp only [List.set_cons_succ, List.set_cons_zero]
        refine takeG (i := 1) (v := .agg (vwC je jr fe fr ep sv)) rfl rfl (by kernel_rfl) (by kernel_rfl) (by kernel_rfl) (by kernel_rfl) (fun _ _ _ h => h) (Or.inl ⟨by kernel_rfl, fun w' hSw => doesLoad 34 (.tmp 4) rfl _ _ rfl (LD.out w' hSw) hSw⟩) ?_
        simp only [List.set_cons_succ, List.set_cons_zero]
        refine takeG (i := 2) (v := .slice (some ⟨ng, no, none⟩) m c) rfl rfl (by kernel_rfl) (by kernel_rfl) (by kernel_rfl) (by kernel_rfl) (fun _ _ _ h => h) (Or.inl ⟨by kernel_rfl, fun w' hSw => Or.inl ⟨w', ?_, hSw⟩⟩) ?_
        · go_simp
        simp only [List.set_cons_succ, List.set_cons_zero]
        refine takeG (i := 3) (v := .int .i64 (k : Int)) rfl rfl (by kernel_rfl) (by kernel_rfl) (by kernel_rfl) (by kernel_rfl) (fun _ _ _ h => h) (Or.inl ⟨by kernel_rfl, fun w' hSw => Or.inl ⟨w', ?_, hSw⟩⟩) ?_
        · go_simp
        simp only [List.set_cons_succ, List.set_cons_zero]
        refine takeG (i := 4) (v := .pointer (some ⟨ng, no + k * 3, none⟩)) rfl rfl (by kernel_rfl) (by kernel_rfl) (by kernel_rfl) (by kernel_rfl) (fun _ _ _ h => h) (Or.inl ⟨by kernel_rfl, fun w' hSw => Or.inl ⟨w', ?_, hSw⟩⟩) ?_
        · go_simp
        simp only [List.set_cons_succ, List.set_cons_zero]
        refine takeG (i := 5) (v := .pointer (some ⟨ng, no + k * 3, none⟩)) rfl rfl (by kernel_rfl) (by kernel_rfl) (by kernel_rfl) (by kernel_rfl) (fun _ _ _ h => h) (Or.inl ⟨by kernel_rfl, fun w' hSw => Or.inl ⟨w', ?_, hSw⟩⟩) ?_
        · go_simp
        simp only [List.set_cons_succ, List.set_cons_zero]
        refine takeG (i := 6) (v := .int .u64 x) rfl rfl (by kernel_rfl) (by kernel_rfl) (by kernel_rfl) (by kernel_rfl) (fun _ _ _ h => h) (Or.inl ⟨by kernel_rfl, fun w' hSw => Or.inl ⟨w', ?_, hSw⟩⟩) ?_
        · have hl := HC0.out w' hSw; go_simp
        simp only [List.set_cons_succ, List.set_cons_zero]
        refine takeG (i := 7) (v := .bool B) rfl rfl (by kernel_rfl) (by kernel_rfl) (by kernel_rfl) (by kernel_rfl) (fun _ _ _ h => h) (Or.inl ⟨by kernel_rfl, fun w' hSw => doesOf rfl (by kernel_rfl) fun K hK => ?_⟩) ?_
        · go_simp
          refine (HC.out _ hSw).mono ?_
          rintro e w2 ⟨rfl, hw⟩
          exact hK.out _ (hSw.trans (hw.mono hSw.size))
        simp only [List.set_cons_succ, List.set_cons_zero]
        refine doneG (by kernel_rfl) fun w' hSw => ?_
        have HB2 := hide (HBW.out.trans (Below.mono hSw HBW.out.size))
        clear HC HC0 LD hSw
        cases B
        · go_wp2
          go_roundw
          case rel => exact ⟨k + 1, by go_num, by omega, by omega, false, rfl, hide ⟨by rw [hkn.out]; rfl, hNo.out (fun _ => rfl), HB2.out⟩⟩
          case measure => simp [intOf]; omega
        · have hA : Hid (Ans = true) := hide (by rw [← hAns.out]; exact hBk.out rfl)
          have HB3 := hide (HB.out.trans (HB2.out.mono HB.out.size))
          clear HNo HL hkn hBk hNo
          go_wp2
          go_ret
          exact ⟨by rw [hA.out]; rfl, HB3.out⟩
      · have hpr : ((tb bs (tb bs k).par).root == r) = false := by
          rw [← hr.out]
          simp only [beq_eq_false_iff_ne, ne_eq]
          exact fun e => hp (HO.out.one _ _ hpl hq e)
        have hpr2 : decide ((tb bs (tb bs k).par).root = r) = false := by
          rw [decide_eq_false_iff_not]
          simpa using hpr
        generalize (tb bs (tb bs k).par).root = x at hc1 hpr hpr2
        have HR := hide (show L = (!knB bs q (k + 1)) by rw [knB_miss hp]; exact HL.out)
        have hNo := hide (HNo.out.next (k := k) (fun e => absurd e hp))
        clear HIH HF HMo hpar hroot hpl hpk hc0
        go_wp2
        go_roundw
        case rel => exact ⟨k + 1, by go_num, by omega, by omega, L, rfl, hide ⟨HR.out, hNo.out, HBW.out⟩⟩
        case measure => simp [intOf]; omega
    · have hkm2 : k = m := by omega
      obtain ⟨V, rfl⟩ : ∃ V, V = wr := ⟨_, rfl⟩
      have HNo2 := hide (by have := HNo.out; rw [hkm2, hml.out] at this; exact this.all HO.out hq)
      have hA : Hid (Ans = (L && ok r)) := hide (by rw [← hAns.out, HNo2.out, lf_kn HO.out hq, HL.out, hkm2, hml.out, hr.out])
      have HN3 := hide (HN.out.below HBW.out)
      have HX3 := hide (HX.out.below HBW.out)
      have HB3 := hide (HB.out.trans (HBW.out.mono HB.out.size))
      have hru := HO.out.root q hq
      rw [hr.out] at hru
      have hl := (HS.out.below HBW.out).look r hru
      have hsb := HF.out r
      have x0 := HX3.out.cell 0
      have x3 := HX3.out.cell 3
      have x4 := HX3.out.cell 4
      have x5 := HX3.out.cell 5
      simp only [List.getElem?_toArray, List.getElem?_cons_zero, List.getElem?_cons_succ] at x0 x3 x4 x5
      have hokr : Hid (ok r = (agB je ep ((f r).getD 0 : Nat) && belowB bs r fr)) := hide (by rw [← hok.out]; rfl)
      have HBE := hide (mbelow_any bs ms (some ⟨ng, no, none⟩) m c r fr V HN3.out HMo.out HO.out)
      generalize belowB bs r fr = B2 at HBE hokr
      obtain ⟨s, hs⟩ : ∃ s : Int, Hid ((((f r).getD 0 : Nat) : Int) = s) := ⟨_, rfl⟩
      have hsI : 0 ≤ s ∧ s ≤ 4294967296 := by rw [← hs.out]; omega
      rw [hs.out] at hl hokr
      have hkm3 : ¬ ((k : Int) < (m : Int)) := by omega
      clear HIH HF HMo HN HX HS HNo HNo2 HL hsb hru hs hok HB HBW hAns hlt
      cases L
      · have hA2 : Hid (Ans = false) := hide (by rw [hA.out]; rfl)
        clear HBE hA
        go_wp2
        go_ret
        exact ⟨by rw [hA2.out]; rfl, HB3.out⟩
      · rw [Bool.true_and, hokr.out] at hA
        by_cases h0 : je = 0
        · have e1 : Hid (Ans = B2) := hide (by rw [hA.out]; simp [agB, h0])
          have h1 : (je == 0) = true := by simpa using h0
          have h2 : decide (je = 0) = true := by simpa using h0
          clear h0 hA hokr
          go_wp2_with (go_at_call 21; refine HBE.out.mono ?_; rintro e w2 ⟨rfl, hb2⟩; have HB4 := hide (HB3.out.trans (hb2.mono HB3.out.size)); clear hb2)
          go_ret
          exact ⟨by rw [e1.out]; rfl, HB4.out⟩
        · have h1 : (je == 0) = false := by simpa using h0
          have h2 : decide (je = 0) = false := by simpa using h0
          by_cases hj : s = je
          · have e1 : Hid (Ans = B2) := hide (by rw [hA.out]; simp [agB, hj])
            have h3 : (s == je) = true := by simpa using hj
            have h4 : decide (s = je) = true := by simpa using hj
            clear h0 hA hokr hj
            go_wp2_with (go_at_call 21; refine HBE.out.mono ?_; rintro e w2 ⟨rfl, hb2⟩; have HB4 := hide (HB3.out.trans (hb2.mono HB3.out.size)); clear hb2)
            go_ret
            exact ⟨by rw [e1.out]; rfl, HB4.out⟩
          · have h3 : (s == je) = false := by simpa using hj
            have h4 : decide (s = je) = false := by simpa using hj
            have e1 : Hid (Ans = (decide (ep ≤ s + 2) && B2)) := hide (by rw [hA.out]; simp [agB, h0, hj])
            clear h0 hA hokr hj
            by_cases h5 : ep ≤ s + 2
            · have h6 : decide (ep ≤ s + 2) = true := decide_eq_true h5
              rw [h6, Bool.true_and] at e1
              clear h5
              go_wp2_with (go_at_call 21; refine HBE.out.mono ?_; rintro e w2 ⟨rfl, hb2⟩; have HB4 := hide (HB3.out.trans (hb2.mono HB3.out.size)); clear hb2)
              go_ret
              exact ⟨by rw [e1.out]; rfl, HB4.out⟩
            · have h6 : decide (ep ≤ s + 2) = false := decide_eq_false h5
              rw [h6, Bool.false_and] at e1
              clear h5 HBE
              go_wp2
              go_ret
              exact ⟨by rw [e1.out]; rfl, HB3.out⟩
end Go.Proofs.Ytfkabmgbcdoijaa

/- Contract of viable.Of's closure, which calls itself. -/
import Derived.Test.YtfkabmgbcdoijaaVbFun

namespace Go.Proofs.Ytfkabmgbcdoijaa

open Go.ChangeShapes Go.WideShapes Go.ChangeAt Go.RowKit Go.Maps

set_option linter.unusedVariables false

theorem row_owned {w : World} {B n : Nat} {a : Option Addr} {c : Nat} {ks : List Int} (hn : ks.length = n) (h : w.ownsRow B 29 1 (.slice a n c) n (ks.map (Value.int .u64))) : RowIn .u64 w a n c ks := by
  subst hn
  obtain ⟨a1, c1, e1, HR⟩ := RowIn.ofOwned h
  cases e1
  exact HR
/-- what the closure holds, and what does not turn -/
structure VK (w : World) (bt bv bm ba am p : Nat) (F : Nat → Prop) (bs : List TBlk) (je jr fe fr ep : Int) (sv : Value) (f : Int → Option Nat) : Prop where
  t : OAt w bt (.cells #[.pointer (some ⟨p, 0, none⟩)] 24)
  v : OAt w bv (vwO je jr fe fr ep sv)
  m : OAt w bm (.cells #[.func (.func 17) #[] #[.pointer (some ⟨bt, 0, none⟩), .pointer (some ⟨bv, 0, none⟩), .pointer (some ⟨bm, 0, none⟩), .pointer (some ⟨ba, 0, none⟩)]] 52)
  a : OAt w ba (.cells #[.map (some am)] 36)
  tree : TAt w F p bs
  src : SrcAt w sv f
  na : ¬ F am ∧ bt ≠ am ∧ bv ≠ am ∧ bm ≠ am ∧ ba ≠ am
  ns : ∀ b, sv = .map (some b) → b ≠ am
variable {w w' : World} {bt bv bm ba am p : Nat} {F : Nat → Prop} {bs : List TBlk} {je jr fe fr ep : Int} {sv : Value} {f : Int → Option Nat}
theorem VK.turn (h : VK w bt bv bm ba am p F bs je jr fe fr ep sv f) (k : Turn (fun i => i = am) w w') : VK w' bt bv bm ba am p F bs je jr fe fr ep sv f :=
  ⟨h.t.turn k h.na.2.1, h.v.turn k h.na.2.2.1, h.m.turn k h.na.2.2.2.1, h.a.turn k h.na.2.2.2.2, h.tree.turn k (fun g hg e => h.na.1 (by rw [← e]; exact hg)), h.src.turn k h.ns, h.na, h.ns⟩
theorem VK.below (h : VK w bt bv bm ba am p F bs je jr fe fr ep sv f) (k : Below w.heap.size w w') : VK w' bt bv bm ba am p F bs je jr fe fr ep sv f := h.turn (Turn.of k)
theorem VK.cells (h : VK w bt bv bm ba am p F bs je jr fe fr ep sv f) :
    w.cell? ⟨bt, 0, none⟩ = some (.pointer (some ⟨p, 0, none⟩)) ∧ w.cell? ⟨bv, 0, none⟩ = some (.int .i64 je) ∧ w.cell? ⟨bv, 1, none⟩ = some (.int .u64 jr) ∧ w.cell? ⟨bv, 2, none⟩ = some (.int .i64 fe) ∧ w.cell? ⟨bv, 3, none⟩ = some (.int .u64 fr) ∧ w.cell? ⟨bv, 4, none⟩ = some (.int .i64 ep) ∧ w.cell? ⟨bv, 5, none⟩ = some sv
    ∧ w.cell? ⟨bm, 0, none⟩ = some (.func (.func 17) #[] #[.pointer (some ⟨bt, 0, none⟩), .pointer (some ⟨bv, 0, none⟩), .pointer (some ⟨bm, 0, none⟩), .pointer (some ⟨ba, 0, none⟩)]) ∧ w.cell? ⟨ba, 0, none⟩ = some (.map (some am)) :=
  ⟨h.t.cell 0, h.v.cell 0, h.v.cell 1, h.v.cell 2, h.v.cell 3, h.v.cell 4, h.v.cell 5, h.m.cell 0, h.a.cell 0⟩
/-- in the map are roots of blocks alone -/
def Ins (bs : List TBlk) (g : Int → Bool) : Prop := ∀ x, g x = true → (idx bs x).isSome = true
theorem Ins.or {bs : List TBlk} {g h : Int → Bool} (a : Ins bs g) (b : Ins bs h) : Ins bs (fun x => g x || h x) := fun x hx => by
  simp only [Bool.or_eq_true] at hx
  exact hx.elim (a x) (b x)
theorem Ins.may (bs : List TBlk) (ok g : Int → Bool) : Ins bs (fun x => ldR bs ok x && g x) := fun x hx => by
  simp only [Bool.and_eq_true] at hx
  obtain ⟨q, hq, _⟩ := ldR_some hx.1
  rw [hq]; rfl
/-- the blocks that may and stand on one go in -/
def Led (w : World) (am : Nat) (bs : List TBlk) (ok g : Int → Bool) (q : Nat) (e : Ending) (w' : World) : Prop :=
  e = .returned (.bool (ldB bs ok q)) ∧ MapB w' am bs.length (fun x => g x || (ldR bs ok x && belowB bs x (tb bs q).root)) ∧ Turn (fun i => i = am) w w'

theorem kid_idx {bs : List TBlk} (hO : TOk bs) {q j : Nat} (hq : q < bs.length) (hj : j < (tb bs q).kids.length) : ∃ i, q < i ∧ i < bs.length ∧ (tb bs q).kids.getD j 0 = (tb bs i).root := by
  have hm : (tb bs q).kids.getD j 0 ∈ (tb bs q).kids := by rw [List.getD_eq_getElem?_getD, List.getElem?_eq_getElem hj]; exact List.getElem_mem _
  obtain ⟨i, h0, hi, hp, hr⟩ := (hO.km q hq _).1 hm
  exact ⟨i, by have := hO.par i h0 hi; omega, hi, hr.symm⟩

set_option maxRecDepth 100000 in
set_option maxHeartbeats 4000000 in
theorem may_any (hO : TOk bs) (hfr : U64 fr) (hep : I64 ep) (hf : ∀ r, (f r).getD 0 ≤ 4294967296) (bt bv bm ba am p : Nat) (F : Nat → Prop) (sv : Value) (je jr fe : Int) : ∀ (d q : Nat) (g : Int → Bool) (w : World), bs.length - q ≤ d → q < bs.length →
    VK w bt bv bm ba am p F bs je jr fe fr ep sv f → MapB w am bs.length g → Ins bs g →
    Calls Try.prog 17 #[.int .u64 (tb bs q).root, .pointer (some ⟨bt, 0, none⟩), .pointer (some ⟨bv, 0, none⟩), .pointer (some ⟨bm, 0, none⟩), .pointer (some ⟨ba, 0, none⟩)] w (Led w am bs (okV bs je fr ep f) g q) := by
  intro d
  induction d with
  | zero => intro q g w h1 h2; omega
  | succ d ih =>
  intro q g w hd hq hV hM hI
  have hru := hO.root q hq
  have hall := hide (ldB_all hO (okV bs je fr ep f) hq)
  have hend := hide (onM_end hO (okV bs je fr ep f) hq)
  have hkl := hO.kids q hq
  have hlim := hO.lim
  have HKI := hide (fun j (hj : j < (tb bs q).kids.length) => kid_idx hO hq hj)
  have hlf : Hid (lf bs q = (tb bs q).kids.isEmpty) := hide rfl
  have HK := hide (kids_any F p bs (tb bs q).root q w hV.tree hO hru (idx_of hO hq))
  have HIH := hide ih
  have HV := hide hV
  have HM := hide hM
  have HI := hide hI
  obtain ⟨r, hr⟩ : ∃ r, Hid ((tb bs q).root = r) := ⟨_, rfl⟩
  obtain ⟨ks, hks⟩ : ∃ ks, Hid ((tb bs q).kids = ks) := ⟨_, rfl⟩
  rw [hr.out] at hru hall hend HK ⊢
  rw [hks.out] at hall hend hkl HK HKI hlf
  obtain ⟨n, hn⟩ : ∃ n, Hid (ks.length = n) := ⟨_, rfl⟩
  have HLed : Hid (∀ e w', (e = .returned (.bool (ldB bs (okV bs je fr ep f) q)) ∧ MapB w' am bs.length (fun x => g x || (ldR bs (okV bs je fr ep f) x && belowB bs x r)) ∧ Turn (fun i => i = am) w w') → Led w am bs (okV bs je fr ep f) g q e w') := hide (fun e w' h => by unfold Led; rw [hr.out]; exact h)
  obtain ⟨ct, _, _, _, _, _, _, cm, ca⟩ := hV.cells
  clear hV hM hI ih
  go_enter Try.func17, Try.ntmps17
  go_upto_region 2 with (go_at_call 14; refine HK.out.mono ?_; rintro e w1 ⟨v, rfl, ho, hb⟩; obtain ⟨ka, kc, rfl, hrr⟩ := RowIn.ofOwned ho)
  have HV1 := hide (HV.out.below hb)
  have HM1 := hide (HM.out.below hb)
  have HR := hide ho
  have HB := hide hb
  rw [hn.out] at hrr HR ⊢
  have hnl : n ≤ 1024 := by have := hn.out; omega
  have hne : ∀ b, ka = some b → b.block ≠ am := fun b hb2 e => by
    have h1 := HM.out.lt
    rcases HR.out.2 with ⟨h2, _⟩ | ⟨b2, cap, cur, h2, h3, _⟩
    · cases h2; cases hb2
    · cases h2; cases hb2
      simp at e; omega
  have HNE := hide hne
  clear hrr ho hb HV HM HK ct cm ca hkl hlim hne
  obtain ⟨y0, hy0⟩ : ∃ y0, Hid ((lf bs q && okV bs je fr ep f r) = y0) := ⟨_, rfl⟩
  rw [hy0.out] at hall
  go_cut [8] from 14 to 29 (fun y wx => y = .bool y0 ∧ Hid (Below w1.heap.size w1 wx))
  case first =>
    obtain ⟨ct, v0, v1, v2, v3, v4, v5, cm, ca⟩ := HV1.out.cells
    by_cases h0 : n = 0
    · subst h0
      have hk0 : ks = [] := List.eq_nil_of_length_eq_zero hn.out
      have hy : Hid ((agB je ep ((f r).getD 0 : Nat) && belowB bs r fr) = y0) := hide (by
        rw [← hy0.out, hlf.out, hk0]; rfl)
      have HA := hide (agrees_any je jr fe fr ep sv f r w1 HV1.out.src hru hep (hf r))
      generalize agB je ep ((f r).getD 0 : Nat) = B1 at HA hy
      have HBE := hide (fun w' (hb : Below w1.heap.size w1 w') => below_any F p bs r fr w' (HV1.out.below hb).tree hO hru hfr)
      have HC := hide (fun w' (hb : Below w1.heap.size w1 w') => (HV1.out.below hb).cells)
      generalize belowB bs r fr = B2 at HBE hy
      have hb0 := hide (Below.refl w1.heap.size w1)
      clear HKI hend hall HIH HLed hn hlf hk0 HM1 HR HNE
      cases B1
      · have hy2 : y0 = false := by rw [← hy.out]; rfl
        subst hy2
        go_wp2_with (go_at_call 18; refine HA.out.mono ?_; rintro e w2 ⟨rfl, hb2⟩; have HB2 := hide hb2; clear hb2)
        go_meet
        exact ⟨rfl, HB2⟩
      · have hy2 : y0 = B2 := by rw [← hy.out]; rfl
        subst hy2
        go_wp2_with (first | (go_at_call 18; refine HA.out.mono ?_; rintro e w2 ⟨rfl, hb2⟩; obtain ⟨ct2, v02, v12, v22, v32, v42, v52, cm2, ca2⟩ := HC.out w2 hb2; have HB2 := hide hb2; clear hb2) | (go_at_call 19; refine (HBE.out _ HB2.out).mono ?_; rintro e w' ⟨rfl, hw⟩; obtain rfl : _ = w' := hw.symm))
        go_meet
        exact ⟨rfl, HB2⟩
    · have h1 : ((n : Int) == 0) = false := by simp only [beq_eq_false_iff_ne, ne_eq]; omega
      have h2 : decide ((n : Int) = 0) = false := decide_eq_false (by omega)
      have hy2 : y0 = false := by
        rw [← hy0.out, hlf.out]
        cases hks2 : ks with
        | nil => rw [hks2] at hn; exact absurd hn.out.symm h0
        | cons x xs => rfl
      subst hy2
      have hb0 := hide (Below.refl w1.heap.size w1)
      clear h0 HKI hend hall HIH HLed hn hlf HM1 HR HNE
      go_wp2
      go_meet
      exact ⟨rfl, hb0⟩
  case rest =>
    obtain ⟨rfl, hcc⟩ := hcut
    obtain ⟨V, rfl⟩ : ∃ x, x = wc := ⟨_, rfl⟩
    have HV := hide (HV1.out.below hcc.out)
    have HM := hide (HM1.out.below hcc.out)
    have HR2 := hide (owns_turn HR.out (Turn.of (F := fun _ => False) hcc.out) (fun _ _ e => e))
    have HT := hide (Turn.of (F := fun i => i = am) (HB.out.trans (hcc.out.mono HB.out.size)))
    obtain ⟨ok, hok⟩ : ∃ ok, Hid (okV bs je fr ep f = ok) := ⟨_, rfl⟩
    rw [hok.out] at HIH hall hend HLed hy0
    have HIN := hide (fun (k : Nat) => HI.out.or (Ins.may bs ok (onK bs (ks.take k))))
    have hml : Hid (bs.length ≤ 1024) := hide hO.lim
    clear hcc HV1 HM1 HR HB hf hy0 hlf hks
    go_wp2
    go_loopw [8, 32] (fun y i wr => ∃ k : Nat, i = .int .i64 (k : Int) ∧ k ≤ n ∧ ∃ Y, y = .bool Y ∧ Hid (Y = (y0 || anyM bs ok (ks.take k)) ∧ VK wr bt bv bm ba am p F bs je jr fe fr ep sv f ∧ MapB wr am bs.length (fun x => g x || onM bs ok (ks.take k) x) ∧ wr.ownsRow w.heap.size 29 1 (.slice ka n kc) n (ks.map (Value.int .u64)) ∧ Turn (fun i => i = am) w wr)) (fun _ i _ => n - (intOf i).toNat)
    case atStart =>
      exact ⟨0, rfl, Nat.zero_le _, y0, rfl, hide ⟨by simp [anyM], HV.out, HM.out.congr (fun x => by simp [onM, onK]), HR2.out, HT.out⟩⟩
    case round =>
      clear HV HM HR2 HT
      obtain ⟨k, rfl, hk, Y, rfl, hIv⟩ := hrel
      obtain ⟨h1, h2, h3, h4, h5⟩ := hIv.out
      have HY := hide h1
      have HV := hide h2
      have HM := hide h3
      have HR := hide h4
      have HT := hide h5
      clear hIv h1 h2 h3 h4 h5
      obtain ⟨ct, _, _, _, _, _, _, cm, ca⟩ := HV.out.cells
      by_cases hlt : k < n
      · obtain ⟨b, off, rfl, hgs, hcn⟩ := (row_owned hn.out HR.out).cell k hlt
        obtain ⟨i, hqi, hil, hir⟩ := HKI.out k (by rw [hn.out]; exact hlt)
        have hs1 := hide (anyM_take bs ok ks (j := k) (by rw [hn.out]; exact hlt))
        have hs2 := hide (onM_take bs ok ks (j := k) (by rw [hn.out]; exact hlt))
        have HC := hide (HIH.out i _ wr (by omega) hil HV.out HM.out (HIN.out k))
        unfold Led at HC
        rw [← hir] at HC
        rw [hir, ldR_of hO ok hil] at hs1
        generalize ks.getD k 0 = x at hcn HC hs2
        have hkl : (k : Int) < (n : Int) := by omega
        generalize ldB bs ok i = B at HC hs1
        clear HIH HKI hend hall HLed hir hil hqi
        cases B
        · go_wp2_with (go_at_call 17; refine HC.out.mono ?_; rintro e w2 ⟨rfl, hm, ht⟩; have HM2 := hide hm; have HV2 := hide (HV.out.turn ht); have HR2 := hide (owns_turn HR.out ht (fun g hg e => HNE.out ⟨b, off, none⟩ rfl (by cases hg; exact e))); have HT2 := hide (HT.out.trans ht (fun i hi => .inl hi)); clear hm ht)
          go_roundw
          case rel => exact ⟨k + 1, by go_num, by omega, Y, rfl, hide ⟨by rw [HY.out, hs1.out]; simp, HV2.out, HM2.out.congr (fun x => by rw [hs2.out, Bool.or_assoc]), HR2.out, HT2.out⟩⟩
          case measure => simp [intOf]; omega
        · go_wp2_with (go_at_call 17; refine HC.out.mono ?_; rintro e w2 ⟨rfl, hm, ht⟩; have HM2 := hide hm; have HV2 := hide (HV.out.turn ht); have HR2 := hide (owns_turn HR.out ht (fun g hg e => HNE.out ⟨b, off, none⟩ rfl (by cases hg; exact e))); have HT2 := hide (HT.out.trans ht (fun i hi => .inl hi)); clear hm ht)
          go_roundw
          case rel => exact ⟨k + 1, by go_num, by omega, true, rfl, hide ⟨by rw [hs1.out]; simp, HV2.out, HM2.out.congr (fun x => by rw [hs2.out, Bool.or_assoc]), HR2.out, HT2.out⟩⟩
          case measure => simp [intOf]; omega
      · have hkn : k = n := by omega
        subst hkn
        have htk : ks.take k = ks := by rw [← hn.out]; exact List.take_length
        rw [htk] at HY HM
        rw [← HY.out] at hall
        have HIN2 := hide (HIN.out k)
        rw [htk] at HIN2
        cases Y
        · rw [hall.out] at HLed hend
          have HE := hide (HLed.out _ wr ⟨rfl, HM.out.congr (fun x => by rw [hend.out]; simp), HT.out⟩)
          clear HIH HKI hend hall HLed HY
          go_wp2
          go_ret
          rw [hok.out]
          exact HE.out
        · rw [hall.out] at HLed hend
          obtain ⟨wq, hrun, hMN, hgr⟩ := HM.out.put r hru (by have := hml.out; unfold maxLen; omega)
          have HE := hide (HLed.out _ wq ⟨rfl, (hMN.congr (fun x => by rw [hend.out, ← Bool.or_assoc]; simp)).tight (bs := bs) (HI.out.or (Ins.may bs ok _)), HT.out.trans (Turn.grown hgr) (fun i hi => .inl (by cases hi; rfl))⟩)
          clear HIH HKI hend hall HLed HY hMN hgr
          go_wp2
          go_ret
          rw [hok.out]
          exact HE.out
end Go.Proofs.Ytfkabmgbcdoijaa

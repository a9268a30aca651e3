/- Contract of weight's byBlock: the map of sums. -/
import Derived.Test.YthdohlcaocajdaaGMath

import Derived.Test.YthdohlcaocajdaaRegG

import Derived.Test.YthdohlcaocajdaaTRep

namespace Go.Proofs.Ythdohlcaocajdaa

open Go.ChangeShapes Go.WideShapes Go.ChangeAt Go.RowKit Go.Maps

set_option linter.unusedVariables false

/-- block b is a map of at most n entries, which has f -/
def MapU (w : World) (b n : Nat) (f : Int → Option Int) : Prop :=
  ∃ D : DataW Unit, w.ownsMap Try.prog 37 (plainElem Try.prog 37) b n D ∧ ∀ r : Int, Maps.has D (.int .u64 r) = (f r).isSome ∧ D.atKey (.int .u64 r) (.lit (.int .u64 0)) = .lit (.int .u64 ((f r).getD 0))
theorem MapU.lt {w : World} {b n : Nat} {f : Int → Option Int} (h : MapU w b n f) : b < w.heap.size := by
  obtain ⟨D, h, _⟩ := h
  exact h.lt
theorem MapU.of {w w' : World} {b n : Nat} {f : Int → Option Int} (h : MapU w b n f) (e : w'.heap[b]? = w.heap[b]?) : MapU w' b n f := by
  obtain ⟨D, ⟨es, clock, hb, F, hs, hD⟩, hf⟩ := h
  exact ⟨D, ⟨es, clock, e.trans hb, F, hs, hD⟩, hf⟩
theorem MapU.below {w w' : World} {b n : Nat} {f : Int → Option Int} (h : MapU w b n f) (hb : Below w.heap.size w w') : MapU w' b n f := h.of (hb.block b h.lt)
theorem MapU.congr {w : World} {b n : Nat} {f g : Int → Option Int} (h : MapU w b n f) (e : ∀ r, f r = g r) : MapU w b n g := by
  obtain ⟨D, hD, hf⟩ := h
  exact ⟨D, hD, fun r => by rw [← e r]; exact hf r⟩
theorem MapU.mono {w : World} {b n m : Nat} {f : Int → Option Int} (h : MapU w b n f) (e : n ≤ m) : MapU w b m f := by
  obtain ⟨D, ⟨es, clock, hb, F, hs, hD⟩, hf⟩ := h
  exact ⟨D, ⟨es, clock, hb, F, Nat.le_trans hs e, hD⟩, hf⟩
theorem MapU.new (w : World) : MapU (w.alloc (.map #[] 0)) w.heap.size 0 (fun _ => none) :=
  ⟨.map [], World.ownsMap_made _ _ _ _, fun r => ⟨rfl, rfl⟩⟩
theorem MapU.look {w : World} {b n : Nat} {f : Int → Option Int} (h : MapU w b n f) (r : Int) (hr : 0 ≤ r ∧ r ≤ 18446744073709551615) :
    (Instr.lookup 89 (.map (some b)) (.int .u64 r) false).run Try.prog w = .ok (.int .u64 ((f r).getD 0)) w := by
  obtain ⟨D, hD, hf⟩ := h
  obtain ⟨v, ps, hrun, hv⟩ := hD.lookup keyU Try.underlying89 (z := .int .u64 0) (by kernel_rfl) (zd := .lit (.int .u64 0)) (plainElem_int Try.underlying37 (by decide)) (keyOf_int_mk Try.underlying37 (a := r) (by simp [Lit.wf, IntKind.min, IntKind.max, IntKind.signed, IntKind.bits]; omega))
  rw [(hf r).2] at hv
  obtain ⟨c, rfl, hc, _⟩ := plainElem_int_inv Try.underlying37 hv
  simp at hc
  rw [hrun, hc.1]
theorem MapU.put {w : World} {b n : Nat} {f : Int → Option Int} (h : MapU w b n f) (r v : Int) (hr : 0 ≤ r ∧ r ≤ 18446744073709551615) (hi : 0 ≤ v ∧ v ≤ 18446744073709551615) (hn : n < maxLen) :
    ∃ w', (Instr.mapUpdate 89 (.map (some b)) (.int .u64 r) (.int .u64 v)).run Try.prog w = .ok () w' ∧ MapU w' b (n + 1) (fun x => if x = r then some v else f x) ∧ w.grownBy w' (some b) := by
  obtain ⟨D, hD, hf⟩ := h
  obtain ⟨w', h1, h2, h3⟩ := hD.update keyU Try.underlying89 hn (keyOf_int_mk Try.underlying37 (a := r) (by simp [Lit.wf, IntKind.min, IntKind.max, IntKind.signed, IntKind.bits]; omega)) (plainElem_int Try.underlying37 (a := v) (by simp [Lit.wf, IntKind.min, IntKind.max, IntKind.signed, IntKind.bits]; omega))
  have hm : IsMap D := by
    obtain ⟨es, clock, hb, F, hs, hD⟩ := hD
    exact ⟨_, hD⟩
  refine ⟨w', h1, ⟨_, h2, fun x => ?_⟩, h3⟩
  by_cases e : x = r
  · subst e
    simp only [if_true]
    exact ⟨has_put_same hm (by simp [WideAt.IsKeyLit]) _, atKey_put_same hm (by simp [WideAt.IsKeyLit]) _ _⟩
  · simp only [if_neg e]
    exact ⟨(has_put_other (by simp [e]) _).trans (hf x).1, (atKey_put_other (by simp [e]) _ _).trans (hf x).2⟩
/-- what byBlock hands back -/
def Bys (w : World) (es : List Ent) (bal : List Int) (e : Ending) (w' : World) : Prop := ∃ b, e = .returned (.map (some b)) ∧ MapU w' b es.length (fK es bal es.length) ∧ Below w.heap.size w w'
theorem sums_one (bal : List Int) (k : Int) (hu : ∀ z ∈ bal, 0 ≤ z ∧ z ≤ 18446744073709551615) : sums bal [k] = one bal k ∧ 0 ≤ one bal k ∧ one bal k ≤ 18446744073709551615 := by
  unfold sums one
  simp only [List.foldl_cons, List.foldl_nil]
  by_cases h : 0 ≤ k ∧ k < (bal.length : Int)
  · rw [if_pos h, if_pos h]
    have hm : bal.getD k.toNat 0 ∈ bal := by
      rw [List.getD_eq_getElem?_getD, List.getElem?_eq_getElem (show k.toNat < bal.length by omega)]; exact List.getElem_mem _
    have := hu _ hm
    omega
  · rw [if_neg h, if_neg h]
    omega

theorem row_one {w : World} {g : Nat} {z : Int} {t : TypeId} (h : OAt w g (.cells #[.int .i64 z] t)) : RowIn .i64 w (some ⟨g, 0, none⟩) 1 1 [z] :=
  ⟨rfl, fun h => (by cases h), fun i hi => by
    have : i = 0 := by omega
    subst this
    exact ⟨g, 0, rfl, h.lt, h.cell 0⟩, by simp [maxLen]⟩
set_option maxRecDepth 100000 in
set_option maxHeartbeats 4000000 in
theorem by_any (es : List Ent) (ga : Option Addr) (n nc : Nat) (bal : List Int) (a : Option Addr) (l c : Nat) (s b : Int) (w : World) (hA : 0 < n → ∃ g, ga = some ⟨g, 0, none⟩ ∧ n = nc ∧ OAt w g (eobj es)) (hn : es.length = n) (hm : n ≤ 4096)
    (hR : ∀ k, U64 (getR es k)) (hB : RowIn .u64 w a l c bal) (hu : ∀ z ∈ bal, 0 ≤ z ∧ z ≤ 18446744073709551615) :
    Calls Try.prog 44 #[.agg #[.slice a l c, .int .i64 s, .int .i64 b], .slice ga n nc] w (Bys w es bal) := by
  have HA := hide hA
  have HR := hide hR
  have HBL := hide hB
  have HU := hide hu
  have hnl := hide hn
  clear hA hR hB hu hn
  have hmm := @run_makeMap Try.prog
  have HX0 := hide (OAt.new w (cfg a l c s b))
  have HM0 := hide (MapU.new (w.alloc (cfg a l c s b)))
  have HB0 := hide (((Below.refl w.heap.size w).alloc (Nat.le_refl _) (cfg a l c s b)).alloc (by rw [World.size_alloc]; omega) (.map #[] 0))
  replace HX0 := hide (HX0.out.alloc (.map #[] 0))
  go_enter Try.func44, Try.ntmps44
  go_wp2
  obtain ⟨mb, hmb⟩ : ∃ mb, Hid (w.heap.size + 1 = mb) := ⟨_, rfl⟩
  rw [World.size_alloc, hmb.out] at HM0
  rw [hmb.out]
  go_loopw [12] (fun v wr => ∃ k : Nat, v = .int .i64 (k : Int) ∧ k ≤ n ∧ Hid (MapU wr mb k (fK es bal k) ∧ OAt wr w.heap.size (cfg a l c s b) ∧ Below w.heap.size w wr)) (fun v _ => n - (intOf v).toNat)
  case atStart => exact ⟨0, rfl, Nat.zero_le _, hide ⟨HM0.out.congr (fun r => rfl), HX0.out, HB0.out⟩⟩
  case round =>
    clear HM0 HX0 HB0
    obtain ⟨k, rfl, hkn, hI⟩ := hrel
    obtain ⟨h1, h2, h3⟩ := hI.out
    have HM := hide h1
    have HX := hide h2
    have HB := hide h3
    clear hI h1 h2 h3
    by_cases hlt : k < n
    · obtain ⟨g, rfl, rfl, hO⟩ := HA.out (by omega)
      have HO := hide (hO.below HB.out)
      have HG := hide (get_any es g n (k : Int) wr HO.out hnl.out hm (by unfold I64e; omega))
      have hkl : (k : Int) < (n : Int) := by omega
      clear hO
      by_cases hgb : getB' es (k : Int) = true
      · have hst : Hid (∀ r, fK es bal (k + 1) r = if r = getR es (k : Int) then some (((fK es bal k (getR es (k : Int))).getD 0 + one bal (k : Int)) % 18446744073709551616) else fK es bal k r) := hide (fK_step hgb)
        rw [hgb] at HG
        have hon := HR.out (k : Int)
        obtain ⟨on, hone⟩ : ∃ on, Hid (getR es (k : Int) = on) := ⟨_, rfl⟩
        rw [hone.out] at HG hst hon
        unfold U64 at hon
        have hlk := HM.out.look on hon
        obtain ⟨v, hv⟩ : ∃ v, Hid ((fK es bal k on).getD 0 = v) := ⟨_, rfl⟩
        have hvu : 0 ≤ v ∧ v ≤ 18446744073709551615 := by rw [← hv.out, fK_get]; omega
        rw [hv.out] at hst hlk
        obtain ⟨h1, h2⟩ := sums_one bal (k : Int) HU.out
        obtain ⟨x, hx⟩ : ∃ x, Hid (one bal (k : Int) = x) := ⟨_, rfl⟩
        rw [hx.out] at h1 h2 hst
        have H1 := hide h1
        have hxu := h2
        clear h1 h2 hgb
        go_upto_region 7 with (go_at_call 22; refine HG.out.mono ?_; rintro e w' ⟨rfl, hw⟩; obtain rfl : _ = w' := hw.symm)
        have HL := hide (HBL.out.below HB.out)
        have hxs : Hid (∀ w', Turn (fun i => i = mb) wr w' → w'.cell? ⟨w.heap.size, 0, none⟩ = some (.slice a l c) ∧ w'.cell? ⟨w.heap.size, 1, none⟩ = some (.int .i64 s) ∧ w'.cell? ⟨w.heap.size, 2, none⟩ = some (.int .i64 b)) := hide fun w' h => by
          have := HX.out.turn h (by have := hmb.out; omega)
          exact ⟨this.cell 0, this.cell 1, this.cell 2⟩
        have HBW := hide HB.out
        clear HB hlk HG HA hw
        -- WAYS
        have HB : Hid (Below wr.heap.size wr wr.drew) := hide (Below.refl _ _).drew
        refine wp_region_noPanic ?_
        refine wp_region_held_drew (S := fun w' => Turn (fun i => i = mb) wr w') (by kernel_rfl) (Turn.of HB.out) (fun hHeld => ?_)
        replace HM := hide (HM.out.below HB.out)
        replace HL := hide (HL.out.below HB.out)
        generalize wr.drew = w0 at HB hHeld HM HL ⊢
        refine take_set (i := 0) (v := .map (some mb)) rfl rfl (by kernel_rfl) (by kernel_rfl) (by kernel_rfl) (fun _ _ _ h => h) (Or.inl ⟨by kernel_rfl, fun w' hSw => ?_⟩) hHeld ?_
        · go_simp
        simp only [List.set_cons_succ, List.set_cons_zero]
        refine take_set (i := 1) (v := .int .u64 on) rfl rfl (by kernel_rfl) (by kernel_rfl) (by kernel_rfl) (fun _ _ _ h => h) (Or.inl ⟨by kernel_rfl, fun w' hSw => ?_⟩) hHeld ?_
        · go_simp
        simp only [List.set_cons_succ, List.set_cons_zero]
        refine take_set (i := 3) (v := .agg #[.slice a l c, .int .i64 s, .int .i64 b]) rfl rfl (by kernel_rfl) (by kernel_rfl) (by kernel_rfl) (fun _ _ _ h => h) (Or.inl ⟨by kernel_rfl, fun w' hSw => ?_⟩) hHeld ?_
        · have hl := hxs.out w' hSw; go_simp
        simp only [List.set_cons_succ, List.set_cons_zero]
        refine take_set (i := 4) (v := .int .i64 (k : Int)) rfl rfl (by kernel_rfl) (by kernel_rfl) (by kernel_rfl) (fun _ _ _ h => h) (Or.inl ⟨by kernel_rfl, fun w' hSw => ?_⟩) hHeld ?_
        · go_simp
        simp only [List.set_cons_succ, List.set_cons_zero]
        refine wpAnyH_ready (rs := [2, 5]) (by kernel_rfl) (by simp) ?_
        refine AllReadyH.cons (o := _) rfl (fun K hK => ?_) (AllReadyH.cons (o := _) rfl (fun K hK => ?_) (AllReadyH.nil))
        · have hl := HM.out.look on hon
          rw [hv.out] at hl
          go_simp
          refine hK.out _ _ (Turn.of HB.out) (fun hHeld => ?_)
          clear hK K
          have hbel := below_alloc w0 (.cells #[.int .i64 (k : Int)] 3)
          have HT := hide (OAt.new w0 (.cells #[.int .i64 (k : Int)] 3))
          refine wpAnyH_ready (rs := [5]) (by kernel_rfl) (by simp) ?_
          refine AllReadyH.cons (o := _) rfl (fun K hK => ?_) AllReadyH.nil
          go_simp
          refine hK.out _ _ (Turn.of (HB.out.trans (hbel.mono HB.out.size))) (fun hHeld => ?_)
          clear hK K
          have z2 : Hid ((w0.alloc (.cells #[.int .i64 (k : Int)] 3)).heap.size = w0.heap.size + 1) := hide (by simp)
          generalize w0.alloc (.cells #[.int .i64 (k : Int)] 3) = wq2 at hbel HT hHeld z2 ⊢
          replace HM := hide (HM.out.below hbel)
          replace HL := hide (HL.out.below hbel)
          have HTs : Hid (wr.heap.size ≤ w0.heap.size) := hide HB.out.size
          replace HB := hide (HB.out.trans (hbel.mono HB.out.size))
          clear hbel
          obtain ⟨gT, gTe⟩ : ∃ x, Hid (w0.heap.size = x) := ⟨_, rfl⟩
          rw [gTe.out] at HT HTs ⊢
          refine wpAnyH_ready (rs := [6]) (by kernel_rfl) (by simp) ?_
          refine AllReadyH.cons (o := _) rfl (fun K hK => ?_) AllReadyH.nil
          go_simp
          refine (sum_any bal [(k : Int)] a l c s b (some ⟨gT, 0, none⟩) 1 1 wq2 HL.out (row_one HT.out)).mono ?_
          rintro e wq3 ⟨rfl, hw⟩
          rw [H1.out]
          have hbel : Below wq2.heap.size wq2 wq3 := by rw [hw]; exact below_cfg _ _
          clear hw
          replace HM := hide (HM.out.below hbel)
          replace HL := hide (HL.out.below hbel)
          replace HT := hide (HT.out.below hbel)
          replace HB := hide (HB.out.trans (hbel.mono HB.out.size))
          have z3 : Hid (wq2.heap.size ≤ wq3.heap.size) := hide hbel.size
          clear hbel 
          refine hK.out _ _ (Turn.of HB.out) (fun hHeld => ?_)
          clear hK K
          refine take_set (i := 7) (v := .int .u64 (IntKind.u64.wrap (v + x))) rfl rfl (by kernel_rfl) (by kernel_rfl) (by kernel_rfl) (fun _ _ _ h => h) (Or.inl ⟨by kernel_rfl, fun w' hSw => ?_⟩) hHeld ?_
          · go_simp
          simp only [List.set_cons_succ, List.set_cons_zero]
          refine wpAnyH_ready (rs := [8]) (by kernel_rfl) (by simp) ?_
          refine AllReadyH.cons (o := _) rfl (fun K hK => ?_) AllReadyH.nil
          obtain ⟨wq4, hrun, hMN, hgr⟩ := HM.out.put on (IntKind.u64.wrap (v + x)) hon (by rw [IntKind.wrap_u64]; omega) (by unfold maxLen; omega)
          have HT9 : Hid (Turn (fun i => i = mb) wr wq4) := hide (Turn.trans (Turn.of HB.out) (Turn.grown hgr) (fun i hi => .inl (by cases hi; rfl)))
          go_simp
          have HMN := hide (hMN)
          refine hK.out _ _ ((Turn.trans (Turn.of HB.out) (Turn.grown hgr) (fun i hi => .inl (by cases hi; rfl)))) (fun hHeld => ?_)
          clear hK K
          refine wpAnyH_done (by kernel_rfl) ?_ _
          refine NoPanic.normal ?_
          go_wp2
          go_roundw
          case rel => exact ⟨k + 1, by go_num, by omega, hide ⟨HMN.out.congr (fun r => by rw [hst.out, IntKind.wrap_u64]), HX.out.turn HT9.out (by have := hmb.out; omega), HBW.out.trans (Turn.below HT9.out HBW.out.size (fun i hi => by have := hmb.out; omega))⟩⟩
          case measure => simp [intOf]; omega
        · have hbel := below_alloc w0 (.cells #[.int .i64 (k : Int)] 3)
          have HT := hide (OAt.new w0 (.cells #[.int .i64 (k : Int)] 3))
          go_simp
          refine hK.out _ _ (Turn.of (HB.out.trans (hbel.mono HB.out.size))) (fun hHeld => ?_)
          clear hK K
          have z1 : Hid ((w0.alloc (.cells #[.int .i64 (k : Int)] 3)).heap.size = w0.heap.size + 1) := hide (by simp)
          generalize w0.alloc (.cells #[.int .i64 (k : Int)] 3) = wq1 at hbel HT hHeld z1 ⊢
          replace HM := hide (HM.out.below hbel)
          replace HL := hide (HL.out.below hbel)
          have HTs : Hid (wr.heap.size ≤ w0.heap.size) := hide HB.out.size
          replace HB := hide (HB.out.trans (hbel.mono HB.out.size))
          clear hbel
          obtain ⟨gT, gTe⟩ : ∃ x, Hid (w0.heap.size = x) := ⟨_, rfl⟩
          rw [gTe.out] at HT HTs ⊢
          refine wpAnyH_ready (rs := [2, 6]) (by kernel_rfl) (by simp) ?_
          refine AllReadyH.cons (o := _) rfl (fun K hK => ?_) (AllReadyH.cons (o := _) rfl (fun K hK => ?_) (AllReadyH.nil))
          · have hl := HM.out.look on hon
            rw [hv.out] at hl
            go_simp
            refine hK.out _ _ (Turn.of HB.out) (fun hHeld => ?_)
            clear hK K
            refine wpAnyH_ready (rs := [6]) (by kernel_rfl) (by simp) ?_
            refine AllReadyH.cons (o := _) rfl (fun K hK => ?_) AllReadyH.nil
            go_simp
            refine (sum_any bal [(k : Int)] a l c s b (some ⟨gT, 0, none⟩) 1 1 wq1 HL.out (row_one HT.out)).mono ?_
            rintro e wq3 ⟨rfl, hw⟩
            rw [H1.out]
            have hbel : Below wq1.heap.size wq1 wq3 := by rw [hw]; exact below_cfg _ _
            clear hw
            replace HM := hide (HM.out.below hbel)
            replace HL := hide (HL.out.below hbel)
            replace HT := hide (HT.out.below hbel)
            replace HB := hide (HB.out.trans (hbel.mono HB.out.size))
            have z3 : Hid (wq1.heap.size ≤ wq3.heap.size) := hide hbel.size
            clear hbel 
            refine hK.out _ _ (Turn.of HB.out) (fun hHeld => ?_)
            clear hK K
            refine take_set (i := 7) (v := .int .u64 (IntKind.u64.wrap (v + x))) rfl rfl (by kernel_rfl) (by kernel_rfl) (by kernel_rfl) (fun _ _ _ h => h) (Or.inl ⟨by kernel_rfl, fun w' hSw => ?_⟩) hHeld ?_
            · go_simp
            simp only [List.set_cons_succ, List.set_cons_zero]
            refine wpAnyH_ready (rs := [8]) (by kernel_rfl) (by simp) ?_
            refine AllReadyH.cons (o := _) rfl (fun K hK => ?_) AllReadyH.nil
            obtain ⟨wq4, hrun, hMN, hgr⟩ := HM.out.put on (IntKind.u64.wrap (v + x)) hon (by rw [IntKind.wrap_u64]; omega) (by unfold maxLen; omega)
            have HT9 : Hid (Turn (fun i => i = mb) wr wq4) := hide (Turn.trans (Turn.of HB.out) (Turn.grown hgr) (fun i hi => .inl (by cases hi; rfl)))
            go_simp
            have HMN := hide (hMN)
            refine hK.out _ _ ((Turn.trans (Turn.of HB.out) (Turn.grown hgr) (fun i hi => .inl (by cases hi; rfl)))) (fun hHeld => ?_)
            clear hK K
            refine wpAnyH_done (by kernel_rfl) ?_ _
            refine NoPanic.normal ?_
            go_wp2
            go_roundw
            case rel => exact ⟨k + 1, by go_num, by omega, hide ⟨HMN.out.congr (fun r => by rw [hst.out, IntKind.wrap_u64]), HX.out.turn HT9.out (by have := hmb.out; omega), HBW.out.trans (Turn.below HT9.out HBW.out.size (fun i hi => by have := hmb.out; omega))⟩⟩
            case measure => simp [intOf]; omega
          · go_simp
            refine (sum_any bal [(k : Int)] a l c s b (some ⟨gT, 0, none⟩) 1 1 wq1 HL.out (row_one HT.out)).mono ?_
            rintro e wq2 ⟨rfl, hw⟩
            rw [H1.out]
            have hbel : Below wq1.heap.size wq1 wq2 := by rw [hw]; exact below_cfg _ _
            clear hw
            replace HM := hide (HM.out.below hbel)
            replace HL := hide (HL.out.below hbel)
            replace HT := hide (HT.out.below hbel)
            replace HB := hide (HB.out.trans (hbel.mono HB.out.size))
            have z2 : Hid (wq1.heap.size ≤ wq2.heap.size) := hide hbel.size
            clear hbel 
            refine hK.out _ _ (Turn.of HB.out) (fun hHeld => ?_)
            clear hK K
            have hl := HM.out.look on hon
            rw [hv.out] at hl
            refine wpAnyH_ready (rs := [2]) (by kernel_rfl) (by simp) ?_
            refine AllReadyH.cons (o := _) rfl (fun K hK => ?_) AllReadyH.nil
            go_simp
            refine hK.out _ _ (Turn.of HB.out) (fun hHeld => ?_)
            clear hK K
            refine take_set (i := 7) (v := .int .u64 (IntKind.u64.wrap (v + x))) rfl rfl (by kernel_rfl) (by kernel_rfl) (by kernel_rfl) (fun _ _ _ h => h) (Or.inl ⟨by kernel_rfl, fun w' hSw => ?_⟩) hHeld ?_
            · go_simp
            simp only [List.set_cons_succ, List.set_cons_zero]
            refine wpAnyH_ready (rs := [8]) (by kernel_rfl) (by simp) ?_
            refine AllReadyH.cons (o := _) rfl (fun K hK => ?_) AllReadyH.nil
            obtain ⟨wq4, hrun, hMN, hgr⟩ := HM.out.put on (IntKind.u64.wrap (v + x)) hon (by rw [IntKind.wrap_u64]; omega) (by unfold maxLen; omega)
            have HT9 : Hid (Turn (fun i => i = mb) wr wq4) := hide (Turn.trans (Turn.of HB.out) (Turn.grown hgr) (fun i hi => .inl (by cases hi; rfl)))
            go_simp
            have HMN := hide (hMN)
            refine hK.out _ _ ((Turn.trans (Turn.of HB.out) (Turn.grown hgr) (fun i hi => .inl (by cases hi; rfl)))) (fun hHeld => ?_)
            clear hK K
            refine wpAnyH_done (by kernel_rfl) ?_ _
            refine NoPanic.normal ?_
            go_wp2
            go_roundw
            case rel => exact ⟨k + 1, by go_num, by omega, hide ⟨HMN.out.congr (fun r => by rw [hst.out, IntKind.wrap_u64]), HX.out.turn HT9.out (by have := hmb.out; omega), HBW.out.trans (Turn.below HT9.out HBW.out.size (fun i hi => by have := hmb.out; omega))⟩⟩
            case measure => simp [intOf]; omega
        -- END
      · have hgb : getB' es (k : Int) = false := by simpa using hgb
        rw [hgb] at HG
        have HM2 := hide ((HM.out.mono (Nat.le_succ k)).congr (fun r => (fK_skip hgb r).symm))
        clear hgb
        go_wp2_with (go_at_call 22; refine HG.out.mono ?_; rintro e w' ⟨rfl, hw⟩; obtain rfl : _ = w' := hw.symm)
        go_roundw
        case rel => exact ⟨k + 1, by go_num, by omega, hide ⟨HM2.out, HX.out, HB.out⟩⟩
        case measure => simp [intOf]; omega
    · obtain rfl : k = n := by omega
      have hR : Hid (Bys w es bal (.returned (.map (some mb))) wr) := hide ⟨mb, rfl, by rw [hnl.out]; exact HM.out, HB.out⟩
      go_wp2
      go_ret
      exact hR.out
end Go.Proofs.Ythdohlcaocajdaa

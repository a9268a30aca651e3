/- A model and a tree that are one; contract of the model's Below. -/
import Derived.Test.YtfkabmgbcdoijaaNdRep

import Derived.Test.YtfkabmgbcdoijaaTOne

namespace Go.Proofs.Ytfkabmgbcdoijaa

open Go.ChangeShapes Go.WideShapes Go.ChangeAt Go.RowKit

set_option linter.unusedVariables false

/-- the model says the tree; whose kid the first one was is not asked -/
structure MOf (bs : List TBlk) (ms : List Nod) : Prop where
  len : ms.length = bs.length
  root : ∀ i, i < bs.length → (nd ms i).root = (tb bs i).root
  slot : ∀ i, i < bs.length → (nd ms i).slot = (tb bs i).slot
  par : ∀ i, 0 < i → i < bs.length → (nd ms i).par = (tb bs (tb bs i).par).root
theorem MOf.fnd {bs : List TBlk} {ms : List Nod} (h : MOf bs ms) (r : Int) : fnd ms r = match idx bs r with | some i => (i : Int) | none => -1 := by
  cases hx : idx bs r with
  | none => exact fnd_miss (fun j hj => by rw [h.len] at hj; rw [h.root j hj]; exact idx_none hx j hj)
  | some i =>
    obtain ⟨hi, hr⟩ := idx_some hx
    refine fnd_hit (by rw [h.len]; exact hi) (by rw [h.root i hi]; exact hr) (fun j hj => ?_)
    rw [h.root j (by omega)]
    intro e
    unfold idx at hx
    obtain ⟨_, _, h3⟩ := List.findIdx?_eq_some_iff_getElem.1 hx
    have := h3 j hj
    rw [← tb_lt (by omega)] at this
    simp [e] at this
theorem MOf.some {bs : List TBlk} {ms : List Nod} (h : MOf bs ms) {r : Int} {i : Nat} (hx : idx bs r = some i) : Go.Proofs.Ytfkabmgbcdoijaa.fnd ms r = (i : Int) := by rw [h.fnd, hx]
theorem MOf.none {bs : List TBlk} {ms : List Nod} (h : MOf bs ms) {r : Int} (hx : idx bs r = none) : Go.Proofs.Ytfkabmgbcdoijaa.fnd ms r = -1 := by rw [h.fnd, hx]
/-- a block is laid on another one -/
theorem MOf.lay {bs : List TBlk} {ms : List Nod} (h : MOf bs ms) (hO : TOk bs) {r q s : Int} {o k : Nat} (hq : idx bs q = Option.some o) : MOf (layB bs r o s k) (ms ++ [⟨r, q, s⟩]) := by
  obtain ⟨ho, hoq⟩ := idx_some hq
  have hl := layB_len bs r o s k
  refine ⟨by rw [hl, List.length_append, h.len]; rfl, fun i hi => ?_, fun i hi => ?_, fun i h0 hi => ?_⟩
  · rw [nd_snoc, h.len]
    by_cases e : i < bs.length
    · rw [if_pos e, (root_lay bs r o s k i e).1]; exact h.root i e
    · rw [if_neg e, if_pos (by omega), tb_lay, if_neg e, if_pos (by omega)]
  · rw [nd_snoc, h.len]
    by_cases e : i < bs.length
    · rw [if_pos e, (root_lay bs r o s k i e).2.2.1]; exact h.slot i e
    · rw [if_neg e, if_pos (by omega), tb_lay, if_neg e, if_pos (by omega)]
  · rw [nd_snoc, h.len]
    by_cases e : i < bs.length
    · rw [if_pos e, (root_lay bs r o s k i e).2.1, (root_lay bs r o s k _ (hO.par_le e)).1]; exact h.par i h0 e
    · rw [if_neg e, if_pos (by omega), tb_lay bs r o s k i, if_neg e, if_pos (by omega)]
      show q = _
      rw [(root_lay bs r o s k o ho).1, hoq]

set_option maxRecDepth 100000 in
set_option maxHeartbeats 2000000 in
theorem mbelow_any (bs : List TBlk) (ms : List Nod) (a : Option Addr) (l c : Nat) (r o : Int) (w : World) (hN : NRow w a l ms) (hM : MOf bs ms) (hO : TOk bs) :
    Calls Try.prog 21 #[.slice a l c, .int .u64 r, .int .u64 o] w fun e w' => e = .returned (.bool (belowB bs r o)) ∧ Below w.heap.size w w' := by
  have HN := hide hN
  have HM := hide hM
  have HO := hide hO
  have hml : l = bs.length := by rw [← hN.1, hM.len]
  have hlim : l ≤ 1024 := by rw [hml]; exact hO.lim
  replace hml := hide hml
  have HB0 : Hid (belowB bs r o = match idx bs r, idx bs o with | some t, some b => decide (climb bs b t = b) | _, _ => false) := hide rfl
  clear hN hM hO
  cases hy : idx bs o with
  | none =>
    have hf := hide (HM.out.none hy)
    have hr : Hid (belowB bs r o = false) := hide (by rw [HB0.out, hy]; cases idx bs r <;> rfl)
    clear HB0
    go_enter Try.func21, Try.ntmps21
    have HF := hide (find_any ms a l c o w HN.out (by omega))
    rw [hf.out] at HF
    rw [hr.out]
    clear hf hr HM HO HN hlim hy
    go_wp2_with fail
    refine HF.out.mono ?_
    rintro e w1 ⟨rfl, hb1⟩
    have HB1 := hide hb1
    clear hb1 HF
    go_wp2
    go_ret
    exact ⟨rfl, HB1.out⟩
  | some b =>
    have hf := hide (HM.out.some hy)
    obtain ⟨hbl, hbr⟩ := idx_some hy
    replace hbr := hide hbr
    rw [← hml.out] at hbl
    have h0 : ¬ ((b : Int) < 0) := by omega
    go_enter Try.func21, Try.ntmps21
    have HF := hide (find_any ms a l c o w HN.out (by omega))
    rw [hf.out] at HF
    go_wp2_with fail
    refine HF.out.mono ?_
    rintro e w1 ⟨rfl, hb1⟩
    have HB1 := hide hb1
    have HN1 := hide (HN.out.below hb1)
    clear hb1 HF
    have HF := hide (find_any ms a l c r w1 HN1.out (by omega))
    go_wp2_with fail
    refine HF.out.mono ?_
    rintro e w2 ⟨rfl, hb2⟩
    have HB2 := hide (HB1.out.trans (hb2.mono HB1.out.size))
    have HN2 := hide (HN1.out.below hb2)
    clear hb2 HN HN1 HB1 HF
    cases hx : idx bs r with
    | none =>
      have hf2 := hide (HM.out.none hx)
      rw [hf2.out]
      have hr : Hid (belowB bs r o = false) := hide (by rw [HB0.out, hx])
      clear HB0
      go_wp2
      refine wp_loop_rounds 1 ?_
      rw [rounds_succ]
      go_wp2
      go_ret
      exact ⟨by rw [hr.out]; rfl, HB2.out⟩
    | some t =>
      have hf2 := hide (HM.out.some hx)
      rw [hf2.out]
      have hr : Hid (belowB bs r o = decide (climb bs b t = b)) := hide (by rw [HB0.out, hx, hy])
      obtain ⟨htl, htr⟩ := idx_some hx
      rw [← hml.out] at htl
      clear htr
      clear HB0 hf hf2
      go_wp2
      go_loopw [7] (fun v wr => ∃ i : Nat, v = .int .i64 (i : Int) ∧ i < l ∧ Hid ((climb bs b i = b ↔ climb bs b t = b) ∧ Below w2.heap.size w2 wr)) (fun v _ => (intOf v).toNat)
      case atStart => exact ⟨t, rfl, by omega, hide ⟨Iff.rfl, Below.refl _ _⟩⟩
      case round =>
        obtain ⟨i, rfl, hil, hI⟩ := hrel
        obtain ⟨hcl, hb⟩ := hI.out
        have HC := hide hcl
        have HB := hide hb
        clear hI hcl hb
        obtain ⟨g, off, rfl, hgl, hc⟩ := (HN2.out.below HB.out).2 (by omega)
        have h4 := hc i hil
        obtain ⟨x, hxx⟩ : ∃ x, Hid (nd ms i = x) := ⟨_, rfl⟩
        rw [hxx.out] at h4
        have q0 := h4 0 (by omega)
        have q1 := h4 1 (by omega)
        simp only [nC, List.getElem?_cons_zero, List.getElem?_cons_succ, Nat.add_zero] at q0 q1
        have hli : (i : Int) < (l : Int) := by omega
        have h0i : (0 : Int) ≤ (i : Int) := by omega
        have hxr : Hid (x.root = (tb bs i).root) := hide (by rw [← hxx.out]; exact HM.out.root i (by rw [← hml.out]; omega))
        clear hc h4
        by_cases he : i = b
        · subst he
          have heq : (x.root == o) = true := by rw [hxr.out, hbr.out]; simp
          have hv : Hid (belowB bs r o = true) := hide (by rw [hr.out]; exact decide_eq_true (HC.out.1 (climb_stop (by omega))))
          have HB3 := hide (HB2.out.trans (HB.out.mono HB2.out.size))
          clear HC hr
          go_wp2
          go_ret
          exact ⟨by rw [hv.out]; rfl, HB3.out⟩
        · have hne : x.root ≠ o := by
            rw [hxr.out, ← hbr.out]
            intro e
            exact he (HO.out.one i b (by rw [← hml.out]; omega) (by rw [← hml.out]; omega) e)
          have heq : (x.root == o) = false := by simpa using hne
          clear hne
          by_cases hz : i = 0
          · subst hz
            have hv : Hid (belowB bs r o = false) := hide (by
              rw [hr.out]
              refine decide_eq_false (fun e => ?_)
              have := HC.out.2 e
              rw [climb_stop (by omega)] at this
              omega)
            have HB3 := hide (HB2.out.trans (HB.out.mono HB2.out.size))
            rw [Nat.zero_mul, Nat.add_zero] at q0
            clear HC hr
            go_wp2
            go_ret
            exact ⟨by rw [hv.out]; rfl, HB3.out⟩
          · have hpar := HO.out.par i (by omega) (by rw [← hml.out]; omega)
            have hfp : Hid (fnd ms x.par = (((tb bs i).par : Nat) : Int)) := hide (by
              rw [← hxx.out, HM.out.par i (by omega) (by rw [← hml.out]; omega)]
              exact HM.out.some (idx_of HO.out (HO.out.par_le (by rw [← hml.out]; omega))))
            have HC2 : Hid (climb bs b (tb bs i).par = b ↔ climb bs b t = b) := hide (by
              rw [← HC.out]
              by_cases hbi : b < i
              · rw [climb_go hbi hpar]
              · rw [climb_stop hbi, climb_stop (by omega)]
                constructor <;> intro e <;> omega)
            have hz2 : ((i : Int) == 0) = false := by
              simp only [beq_eq_false_iff_ne, ne_eq]
              omega
            generalize (tb bs i).par = p at hpar hfp HC2
            have HN3 := hide (HN2.out.below HB.out)
            clear HC hr hxr hxx
            have HF := hide (find_any ms _ l c x.par wr HN3.out (by omega))
            rw [hfp.out] at HF
            go_wp2_with (go_at_call 28; refine HF.out.mono ?_; rintro e w3 ⟨rfl, hb3⟩; have HB3 := hide (HB.out.trans (hb3.mono HB.out.size)); clear hb3)
            go_round
            case rel => exact ⟨p, rfl, by omega, hide ⟨HC2.out, HB3.out⟩⟩
            case measure => simp [intOf]; omega
end Go.Proofs.Ytfkabmgbcdoijaa

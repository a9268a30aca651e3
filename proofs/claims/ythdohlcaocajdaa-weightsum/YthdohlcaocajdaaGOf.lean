/- Contract of weight.Of. -/
import Derived.Test.YthdohlcaocajdaaGBy

import Derived.Maps.RangeWalk

import Derived.Deep.CutRange

namespace Go.Proofs.Ythdohlcaocajdaa

open Go.ChangeShapes Go.WideShapes Go.ChangeAt Go.RowKit Go.Maps

set_option linter.unusedVariables false

/-- what weight.Of tells -/
def wV (bs : List TBlk) (es : List Ent) (bal : List Int) (s b bo r : Int) : Int := ofV (bif belowB bs bo r then bst (tot bal) s b else 0) (fun x => belowB bs x r) es bal
theorem bst_b (t s b : Int) (ht : 0 ≤ t ∧ t ≤ 18446744073709551615) : 0 ≤ bst t s b ∧ bst t s b ≤ 18446744073709551615 := by
  unfold bst
  omega
theorem sameU (x y : Int) : (Lit.int .u64 y).sameKey (.int .u64 x) = (y == x) := by
  simp only [Lit.sameKey]
  by_cases e : y = x
  · subst e; simp
  · simp [e]

set_option maxRecDepth 100000 in
set_option maxHeartbeats 4000000 in
theorem wof_any (bs : List TBlk) (F : Nat → Prop) (p : Nat) (es : List Ent) (ga : Option Addr) (n nc : Nat) (bal : List Int) (a : Option Addr) (l c : Nat) (s b bo r : Int) (w : World) (hT : TAt w F p bs) (hO : TOk bs) (hbo : U64 bo) (hr : U64 r)
    (hA : 0 < n → ∃ g, ga = some ⟨g, 0, none⟩ ∧ n = nc ∧ OAt w g (eobj es)) (hn : es.length = n) (hm : n ≤ 4096)
    (hR : ∀ k, U64 (getR es k)) (hB : RowIn .u64 w a l c bal) (hu : ∀ z ∈ bal, 0 ≤ z ∧ z ≤ 18446744073709551615) (hs : I64 s) (hb : I64 b) :
    Calls Try.prog 18 #[.agg #[.slice a l c, .int .i64 s, .int .i64 b], .pointer (some ⟨p, 0, none⟩), .slice ga n nc, .int .u64 bo, .int .u64 r] w fun e w' => e = .returned (.int .u64 (wV bs es bal s b bo r)) ∧ Below w.heap.size w w' := by
  have HT := hide hT
  have HO := hide hO
  have HA := hide hA
  have HR := hide hR
  have HBL := hide hB
  have HU := hide hu
  have hnl := hide hn
  have Hs := hide hs
  have Hb := hide hb
  have Hr := hide hr
  have HX0 := hide (OAt.new w (cfg a l c s b))
  have HB0 := hide ((Below.refl w.heap.size w).alloc (Nat.le_refl _) (cfg a l c s b))
  have HBE := hide (below_any F p bs bo r (w.alloc (cfg a l c s b)) (hT.alloc _) hO hbo hr)
  have hV : Hid (wV bs es bal s b bo r = ofV (bif belowB bs bo r then bst (tot bal) s b else 0) (fun x => belowB bs x r) es bal) := hide rfl
  rw [hV.out]
  have hbb := bst_b (tot bal) s b (tot_b bal)
  obtain ⟨bt, hbt⟩ : ∃ bt, Hid (bst (tot bal) s b = bt) := ⟨_, rfl⟩
  rw [hbt.out] at hbb ⊢
  obtain ⟨B0, hB0⟩ : ∃ B0, Hid (belowB bs bo r = B0) := ⟨_, rfl⟩
  rw [hB0.out] at HBE ⊢
  obtain ⟨bov, hbov⟩ : ∃ x, Hid ((bif B0 then bt else 0) = x) := ⟨_, rfl⟩
  have hbvb : Hid (0 ≤ bov ∧ bov ≤ 18446744073709551615) := hide (by rw [← hbov.out]; cases B0 <;> simp <;> omega)
  clear hT hO hA hR hB hu hn hs hb hr hV
  go_enter Try.func18, Try.ntmps18
  go_upto_if 17 with (go_at_call 43; refine HBE.out.mono ?_; rintro e w' ⟨rfl, hw⟩; obtain rfl : _ = w' := hw.symm)
  go_cut [11] from 18 to 19 (fun x wx => x = .int .u64 bov ∧ Hid (OAt wx w.heap.size (cfg a l c s b) ∧ Below w.heap.size w wx))
  case first =>
    have x0 := HX0.out.cell 0
    have x1 := HX0.out.cell 1
    have x2 := HX0.out.cell 2
    simp only [List.getElem?_toArray, List.getElem?_cons_zero, List.getElem?_cons_succ] at x0 x1 x2
    have HL1 := hide (HBL.out.alloc (cfg a l c s b))
    have HBO := hide (boost_any bal a l c s b (w.alloc (cfg a l c s b)) HL1.out Hs.out Hb.out)
    rw [hbt.out] at HBO
    clear HBE hw HT HO HA HR HU HL1
    cases B0
    · go_wp2
      go_meet
      exact ⟨by rw [← hbov.out]; rfl, hide ⟨HX0.out, HB0.out⟩⟩
    · go_wp2_with (go_at_call 17; refine HBO.out.mono ?_; rintro e w1 ⟨rfl, hw1⟩; have H2 := hide hw1; clear hw1)
      go_meet
      refine ⟨by rw [← hbov.out]; rfl, hide ?_⟩
      rw [H2.out]
      exact ⟨(HX0.out.alloc _).alloc _, (HB0.out.alloc HB0.out.size _).alloc (by rw [World.size_alloc]; have := HB0.out.size; omega) _⟩
  case rest =>
    obtain ⟨rfl, hcc⟩ := hcut
    obtain ⟨V, rfl⟩ : ∃ x, x = wc := ⟨_, rfl⟩
    have HX := hide hcc.out.1
    have HB := hide hcc.out.2
    have x0 := HX.out.cell 0
    have x1 := HX.out.cell 1
    have x2 := HX.out.cell 2
    simp only [List.getElem?_toArray, List.getElem?_cons_zero, List.getElem?_cons_succ] at x0 x1 x2
    have HBY := hide (by_any es ga n nc bal a l c s b V (fun h => by obtain ⟨g, h1, h2, h3⟩ := HA.out h; exact ⟨g, h1, h2, h3.below HB.out⟩) hnl.out hm HR.out (HBL.out.below HB.out) HU.out)
    clear hcc HBE hw HX0 HB0 HA HU HBL hbt hB0 hbb
    go_upto_region 5 with (first
      | (go_at_call 44; refine HBY.out.mono ?_; rintro e w1 ⟨mb, rfl, hMU, hb1⟩; obtain ⟨D, hD, hf⟩ := hMU; have HF := hide hf; have HD := hide hD; have HB1 := hide (HB.out.trans (hb1.mono HB.out.size)); clear hf hb1)
      | (at_range; refine wpList_range_own _ rfl _ 89 rfl 37 37 keyU Try.underlying89 _ mb es.length D rfl HD.out ?_; intro w0 hrg0 hg0 hs0))
    go_frame
    obtain ⟨it, hit⟩ : ∃ it, Hid (w1.heap.size = it ∧ w.heap.size ≤ it) := ⟨_, hide ⟨rfl, HB1.out.size⟩⟩
    rw [hit.out.1] at hrg0 ⊢
    have HB2 := hide (HB1.out.grown hg0 (by have := HB1.out.size; omega) (fun j hj => by cases hj))
    have HR0 := hide hrg0
    clear hg0 hs0 hD HD HB1 HB HX HBY x0 x1 x2 hrg0
    go_loopw [11] (fun x wr => ∃ (left : Lit → Bool) (cnt : Nat) (z : Int), x = .int .u64 z ∧ Hid (wr.ranges Try.prog 37 (plainElem Try.prog 37) mb it es.length D left cnt ∧ z = ofL bov (fun x => belowB bs x r) (fun y => left (.int .u64 y)) es bal ∧ Below w.heap.size w wr)) (fun _ wr => wr.rangeLeft mb it)
    case atStart => exact ⟨_, _, bov, rfl, hide ⟨HR0.out, (ofL_start hbvb.out (fun x => (HF.out x).1)).symm, HB2.out⟩⟩
    case round =>
      clear HR0 HB2
      obtain ⟨left, cnt, z, rfl, hI⟩ := hrel
      obtain ⟨hrg, hz, hb⟩ := hI.out
      have HZ := hide hz
      have HB := hide hb
      clear hI hz hb
      go_wp2_with (first
        | (at_next; refine wpList_next_ranges_ii _ rfl _ rfl 37 37 .u64 .u64 keyU Try.underlying37 Try.underlying37 mb it es.length _ _ _ rfl hrg ?_ ?_)
        | fail)
      · intro _ hl0
        have hE : Hid (z = ofV bov (fun x => belowB bs x r) es bal) := hide (by rw [HZ.out]; exact ofL_end (fun y => hl0 _))
        rw [← hbov.out] at hE
        clear hrg hl0 HZ
        go_wp2
        go_ret
        exact ⟨by rw [hE.out]; rfl, HB.out⟩
      · intro x c1 w2 cnt1 hwx hwc hlx hat hrg1 hlt hg1 hs1 hen
        have hxu : U64 x := by unfold U64; simpa [Lit.wf, IntKind.min, IntKind.max, IntKind.signed, IntKind.bits] using hwx
        have hc : c1 = (fK es bal es.length x).getD 0 := by
          have h1 := hat (DataW.lit (.int .u64 0))
          rw [(HF.out x).2] at h1
          simpa using h1.symm
        have hst := hide (ofL_step (bo := bov) (below := fun x => belowB bs x r) (left := fun y => left (.int .u64 y)) (left' := fun y => left (.int .u64 y) && !(Lit.int .u64 y).sameKey (.int .u64 x)) (es := es) (bal := bal) hlx hc (fun y => by rw [sameU]))
        rw [← HZ.out] at hst
        have HB2 := hide (HB.out.grown hg1 HB.out.size (fun j hj => by cases hj; exact hit.out.2))
        have HBE := hide (below_any F p bs x r w2 (HT.out.below HB2.out) HO.out hxu Hr.out)
        have HR1 := hide hrg1
        have hm := hide (show w2.rangeLeft mb it < wr.rangeLeft mb it by rw [hrg1.left_eq, hrg.left_eq]; exact hlt)
        clear hrg hrg1 hlt hat hc hwx hwc hg1 hs1 hlx HZ
        generalize belowB bs x r = B1 at HBE hst
        cases B1
        · go_wp2_with (go_at_call 43; refine HBE.out.mono ?_; rintro e w' ⟨rfl, hw⟩; obtain rfl : _ = w' := hw.symm)
          go_roundw
          case rel => exact ⟨_, cnt1, z, rfl, hide ⟨HR1.out, hst.out.symm, HB2.out⟩⟩
          case measure => exact hm.out
        · go_wp2_with (go_at_call 43; refine HBE.out.mono ?_; rintro e w' ⟨rfl, hw⟩; obtain rfl : _ = w' := hw.symm)
          go_roundw
          case rel => exact ⟨_, cnt1, _, rfl, hide ⟨HR1.out, by rw [hst.out, IntKind.wrap_u64]; rfl, HB2.out⟩⟩
          case measure => exact hm.out
end Go.Proofs.Ythdohlcaocajdaa

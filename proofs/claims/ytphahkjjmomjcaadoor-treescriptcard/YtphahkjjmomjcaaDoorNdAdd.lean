/- Contracts of the model's add and At. -/
import Derived.Test.YtphahkjjmomjcaaDoorNdBelow

import Derived.Test.YtphahkjjmomjcaaDoorTAdd

namespace Go.Proofs.YtphahkjjmomjcaaDoor

open Go.ChangeShapes Go.WideShapes Go.ChangeAt Go.RowKit

set_option linter.unusedVariables false

/-- which error the model tells; 0: none -/
def addM (bs : List TBlk) (r q s : Int) : Int := match idx bs r, idx bs q with
  | some _, _ => 6
  | none, none => 5
  | none, some o => if s ≤ (tb bs o).slot then 7 else 0
theorem addM_eq {bs : List TBlk} {r q s : Int} (h : bs.length < 1024) : addM bs r q s = addE bs r q s := by
  unfold addM addE
  cases idx bs r with
  | some i => rfl
  | none =>
    cases idx bs q with
    | none => rfl
    | some o => simp only; rw [if_neg (show ¬ 1024 ≤ bs.length by omega)]
/-- a node's cells -/
theorem NRow.node {w : World} {a : Option Addr} {l : Nat} {ms : List Nod} (h : NRow w a l ms) {i : Nat} (hi : i < l) : ∃ g off, a = some ⟨g, off, none⟩ ∧ g < w.heap.size ∧ w.cell? ⟨g, off + i * 3, none⟩ = some (.int .u64 (nd ms i).root) ∧ w.cell? ⟨g, off + i * 3 + 1, none⟩ = some (.int .u64 (nd ms i).par) ∧ w.cell? ⟨g, off + i * 3 + 2, none⟩ = some (.int .i64 (nd ms i).slot) := by
  obtain ⟨g, off, e, hlt, hc⟩ := h.2 (by omega)
  exact ⟨g, off, e, hlt, hc i hi 0 (by omega), hc i hi 1 (by omega), hc i hi 2 (by omega)⟩

set_option maxRecDepth 100000 in
set_option maxHeartbeats 2000000 in
theorem madd_any (bs : List TBlk) (ms : List Nod) (a : Option Addr) (l c : Nat) (r q s : Int) (w : World) (hN : NRow w a l ms) (hM : MOf bs ms) (hO : TOk bs) :
    Calls Tryd.prog 9 #[.slice a l c, .int .u64 r, .int .u64 q, .int .i64 s] w fun e w' => e = .returned (.int .i64 (addM bs r q s)) ∧ Below w.heap.size w w' := by
  have HN := hide hN
  have HM := hide hM
  have HO := hide hO
  have hml0 : l = bs.length := by rw [← hN.1, hM.len]
  have hlim : l ≤ 1024 := by rw [hml0]; exact hO.lim
  have hml := hide hml0
  have HA : Hid (addM bs r q s = match idx bs r, idx bs q with
    | some _, _ => 6
    | none, none => 5
    | none, some o => if s ≤ (tb bs o).slot then 7 else 0) := hide rfl
  clear hN hM hO hml0
  have HF := hide (find_any ms a l c r w HN.out (by omega))
  cases hx : idx bs r with
  | some t =>
    rw [hx] at HA
    rw [HM.out.some hx] at HF
    have ht0 : (0 : Int) ≤ (t : Int) := by omega
    clear hx HM HO HN
    go_enter Tryd.func9, Tryd.ntmps9
    go_wp2_with fail
    refine HF.out.mono ?_
    rintro e w1 ⟨rfl, hb1⟩
    have HB1 := hide hb1
    clear hb1 HF
    go_wp2
    go_ret
    exact ⟨by rw [HA.out]; rfl, HB1.out⟩
  | none =>
    rw [hx] at HA
    rw [HM.out.none hx] at HF
    clear hx
    go_enter Tryd.func9, Tryd.ntmps9
    go_wp2_with fail
    refine HF.out.mono ?_
    rintro e w1 ⟨rfl, hb1⟩
    have HB1 := hide hb1
    have HN1 := hide (HN.out.below hb1)
    clear hb1 HF HN
    have HF := hide (find_any ms a l c q w1 HN1.out (by omega))
    cases hy : idx bs q with
    | none =>
      rw [hy] at HA
      rw [HM.out.none hy] at HF
      clear hy HM HO
      go_wp2_with fail
      refine HF.out.mono ?_
      rintro e w2 ⟨rfl, hb2⟩
      have HB2 := hide (HB1.out.trans (hb2.mono HB1.out.size))
      clear hb2 HF HN1 HB1
      go_wp2
      go_ret
      exact ⟨by rw [HA.out]; rfl, HB2.out⟩
    | some o =>
      rw [hy] at HA
      rw [HM.out.some hy] at HF
      obtain ⟨hol, _⟩ := idx_some hy
      have hslot : Hid ((nd ms o).slot = (tb bs o).slot) := hide (HM.out.slot o hol)
      rw [← hml.out] at hol
      have ho0 : ¬ ((o : Int) < 0) := by omega
      have hol' : (o : Int) < (l : Int) := by omega
      have ho1 : (0 : Int) ≤ (o : Int) := by omega
      go_wp2_with fail
      refine HF.out.mono ?_
      rintro e w2 ⟨rfl, hb2⟩
      have HB2 := hide (HB1.out.trans (hb2.mono HB1.out.size))
      have HN2 := hide (HN1.out.below hb2)
      clear hb2 HF HN1 HB1
      have HF := hide (find_any ms a l c q w2 HN2.out (by omega))
      rw [HM.out.some hy] at HF
      clear hy
      go_wp2_with fail
      refine HF.out.mono ?_
      rintro e w3 ⟨rfl, hb3⟩
      have HB3 := hide (HB2.out.trans (hb3.mono HB2.out.size))
      obtain ⟨g, off, rfl, _, _, _, q2⟩ := (HN2.out.below hb3).node hol
      rw [hslot.out] at q2
      obtain ⟨Z, hZ⟩ : ∃ Z, Hid ((tb bs o).slot = Z) := ⟨_, rfl⟩
      simp only [hZ.out] at HA
      rw [hZ.out] at q2
      clear hb3 HF HN2 HB2 hslot HM HO
      by_cases hs : s ≤ Z
      · rw [if_pos hs] at HA
        go_wp2
        go_ret
        exact ⟨by rw [HA.out]; rfl, HB3.out⟩
      · rw [if_neg hs] at HA
        go_wp2
        go_ret
        exact ⟨by rw [HA.out]; rfl, HB3.out⟩

set_option maxRecDepth 100000 in
set_option maxHeartbeats 2000000 in
theorem mat_any (bs : List TBlk) (ms : List Nod) (a : Option Addr) (l c : Nat) (r s : Int) (w : World) (hN : NRow w a l ms) (hM : MOf bs ms) (hO : TOk bs) :
    Calls Tryd.prog 15 #[.slice a l c, .int .u64 r, .int .i64 s] w fun e w' => e = .returned (.int .u64 (atR bs r s)) ∧ Below w.heap.size w w' := by
  have HN := hide hN
  have HM := hide hM
  have HO := hide hO
  have hml0 : l = bs.length := by rw [← hN.1, hM.len]
  have hlim : l ≤ 1024 := by rw [hml0]; exact hO.lim
  have hml := hide hml0
  clear hN hM hO hml0
  have HF := hide (find_any ms a l c r w HN.out (by omega))
  cases hx : idx bs r with
  | none =>
    have HA := hide (atR_none (s := s) hx)
    rw [HM.out.none hx] at HF
    clear hx HM HO HN
    go_enter Tryd.func15, Tryd.ntmps15
    go_wp2_with fail
    refine HF.out.mono ?_
    rintro e w1 ⟨rfl, hb1⟩
    have HB1 := hide hb1
    clear hb1 HF
    go_wp2
    go_ret
    exact ⟨by rw [HA.out]; rfl, HB1.out⟩
  | some t =>
    have HA := hide (atR_some (s := s) hx)
    rw [HM.out.some hx] at HF
    obtain ⟨htl, htr⟩ := idx_some hx
    rw [← hml.out] at htl
    have ht0 : ¬ ((t : Int) < 0) := by omega
    clear hx htr
    go_enter Tryd.func15, Tryd.ntmps15
    go_wp2_with fail
    refine HF.out.mono ?_
    rintro e w1 ⟨rfl, hb1⟩
    have HB1 := hide hb1
    have HN1 := hide (HN.out.below hb1)
    clear hb1 HF HN
    go_wp2
    go_loopw [7] (fun v wr => ∃ i : Nat, v = .int .i64 (i : Int) ∧ i < l ∧ Hid (late bs s i = late bs s t ∧ Below w1.heap.size w1 wr)) (fun v _ => (intOf v).toNat)
    case atStart => exact ⟨t, rfl, htl, hide ⟨rfl, Below.refl _ _⟩⟩
    case round =>
      obtain ⟨i, rfl, hil, hI⟩ := hrel
      obtain ⟨hcl, hb⟩ := hI.out
      have HC := hide hcl
      have HB := hide hb
      clear hI hcl hb
      have HN2 := hide (HN1.out.below HB.out)
      obtain ⟨g, off, rfl, hgl, q0, q1, q2⟩ := HN2.out.node hil
      have hib : i < bs.length := by rw [← hml.out]; exact hil
      have hxr : Hid ((nd ms i).root = (tb bs i).root) := hide (HM.out.root i hib)
      have hxs : Hid ((nd ms i).slot = (tb bs i).slot) := hide (HM.out.slot i hib)
      have hli : (i : Int) < (l : Int) := by omega
      have h0i : (0 : Int) ≤ (i : Int) := by omega
      have HB2 := hide (HB1.out.trans (HB.out.mono HB1.out.size))
      obtain ⟨Z, hZ⟩ : ∃ Z, Hid ((nd ms i).slot = Z) := ⟨_, rfl⟩
      obtain ⟨R, hR⟩ : ∃ R, Hid ((nd ms i).root = R) := ⟨_, rfl⟩
      rw [hZ.out] at q2 hxs
      rw [hR.out] at q0 hxr
      by_cases hgo : 0 < i ∧ s < Z
      · obtain ⟨hi0, hsz⟩ := hgo
        have hpar := HO.out.par i hi0 hib
        have hfp : Hid (fnd ms (nd ms i).par = (((tb bs i).par : Nat) : Int)) := hide (by
          rw [HM.out.par i hi0 hib]
          exact HM.out.some (idx_of HO.out (HO.out.par_le hib)))
        have HC2 : Hid (late bs s (tb bs i).par = late bs s t) := hide (by
          rw [← HC.out]
          conv => rhs; rw [late, dif_pos ⟨hi0, by rw [← hxs.out]; exact hsz, hpar⟩])
        generalize (tb bs i).par = p at hpar hfp HC2
        generalize (nd ms i).par = P at q1 hfp
        have hi0' : (0 : Int) < (i : Int) := by omega
        have HF := hide (find_any ms _ l c P wr HN2.out (by omega))
        rw [hfp.out] at HF
        clear HC hxr hxs hib
        go_wp2_with (go_at_call 7; refine HF.out.mono ?_; rintro e w3 ⟨rfl, hb3⟩; have HB3 := hide (HB.out.trans (hb3.mono HB.out.size)); clear hb3)
        go_round
        case rel => exact ⟨p, rfl, by omega, hide ⟨HC2.out, HB3.out⟩⟩
        case measure => simp [intOf]; omega
      · have hst : Hid (atR bs r s = R) := hide (by
          rw [HA.out, ← HC.out, late, dif_neg (fun e => hgo ⟨e.1, by rw [hxs.out]; exact e.2.1⟩), hxr.out])
        clear HC hxr hxs HA hib
        by_cases hi0 : i = 0
        · subst hi0
          rw [Nat.zero_mul, Nat.add_zero] at q0
          go_wp2
          go_ret
          exact ⟨by rw [hst.out]; rfl, HB2.out⟩
        · have hsz : ¬ s < Z := fun h => hgo ⟨by omega, h⟩
          have hi0' : (0 : Int) < (i : Int) := by omega
          clear hgo
          go_wp2
          go_ret
          exact ⟨by rw [hst.out]; rfl, HB2.out⟩
end Go.Proofs.YtphahkjjmomjcaaDoor

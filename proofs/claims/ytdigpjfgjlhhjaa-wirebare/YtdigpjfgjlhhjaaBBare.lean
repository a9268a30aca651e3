/- Contract of wire's Bare, of events of any kind and size that came in. -/
import Derived.Test.YtdigpjfgjlhhjaaBCopyB

import Derived.Test.YtdigpjfgjlhhjaaWPure

namespace Go.Proofs.Ytdigpjfgjlhhjaa

open Go.ChangeShapes Go.WideShapes Go.ChangeAt Go.RowKit

set_option linter.unusedVariables false

/-- what counts of an event -/
def bareX (e : Ev) : Ev := if e.kind = 0 then ⟨0, e.slot, bkZ, vtZ, pfZ⟩ else if e.kind = 1 then ⟨1, 0, e.block, vtZ, pfZ⟩ else if e.kind = 2 then ⟨2, 0, bkZ, e.vote, pfZ⟩ else if e.kind = 3 then ⟨3, 0, bkZ, vtZ, e.proof⟩ else ⟨e.kind, 0, bkZ, vtZ, pfZ⟩
/-- what came in: no list of it takes more than 2^47 bytes -/
def evD (e : Ev) : Prop := bkD e.block ∧ e.vote.who.length ≤ 17592186044416 ∧ e.proof.a.who.length ≤ 17592186044416 ∧ e.proof.b.who.length ≤ 17592186044416
set_option maxHeartbeats 8000000 in
theorem bare_any (e : Ev) (cs : List Value) (w : World) (h : EventC w cs e) (hok : evD e) :
    Calls Try.prog 9 #[.agg cs.toArray] w fun r w' => ∃ cs', r = .returned (.agg cs'.toArray) ∧ EventC (filt tyA w.heap.size w') cs' (bareX e) ∧ Below w.heap.size w w' := by
  obtain ⟨a1, l1, c1, a2, l2, c2, a3, l3, c3, a4, l4, c4, a5, l5, c5, hE⟩ := h.out
  obtain ⟨hc, hk, hs, hb, hV, hP, hv, ha, hb'⟩ := hE
  obtain ⟨kd, es, bk, vt, pf⟩ := e
  subst hc
  have HVT := hide hv
  have HPF : Hid (ProofC w (vtCs pf.a a4 l4 c4 ++ vtCs pf.b a5 l5 c5) pf) := ⟨_, _, rfl, ha, hb'⟩
  have HBK : Hid (BlockC w [.int .u64 bk.root, .int .u64 bk.parent, .int .i64 bk.slot, .slice a1 l1 c1, .slice a2 l2 c2] bk) := ⟨hb, a1, l1, c1, a2, l2, c2, rfl, hV, hP⟩
  have HOK := hide hok
  have BS : Hid (IsI64 es) := hs
  have BK : Hid (IsI64 kd) := hk
  clear h hk hs hb hV hP hv ha hb' hok
  dsimp only at *
  go_enter Try.func9, Try.ntmps9
  go_upto_region 1 with fail
  generalize hW : World.alloc (World.alloc w _) _ = W0
  have HWW := hide hW
  have hb0 : Below w.heap.size w W0 := by rw [← hW]; exact ((Below.refl _ _).alloc (Nat.le_refl _) _).alloc (by simp) _
  have hs0 : W0.heap.size = w.heap.size + 2 := by rw [← hW]; simp
  have X1 : W0.heap[w.heap.size]? = some (.cells (evCs kd es bk vt pf a1 l1 c1 a2 l2 c2 a3 l3 c3 a4 l4 c4 a5 l5 c5) 38 (0, 0)) := by rw [← hW, Below.heap_alloc _ _ _ (by simp)]; exact heap_alloc_new _ _
  have X2 : W0.heap[w.heap.size + 1]? = some (.cells (tickCs 0).toArray 38 (0, 0)) := by
    have := heap_alloc_new (w.alloc (.cells (evCs kd es bk vt pf a1 l1 c1 a2 l2 c2 a3 l3 c3 a4 l4 c4 a5 l5 c5) 38)) (.cells (tickCs 0).toArray 38 (0, 0))
    rw [show (w.alloc (.cells (evCs kd es bk vt pf a1 l1 c1 a2 l2 c2 a3 l3 c3 a4 l4 c4 a5 l5 c5) 38)).heap.size = w.heap.size + 1 by simp] at this
    rw [← hW]
    exact this
  have q0 : W0.cell? ⟨w.heap.size, 0, none⟩ = some (.int .i64 kd) := cell_of_row W0 w.heap.size 0 _ _ _ X1
  clear hW HWW
  obtain ⟨h3, hh3⟩ : ∃ x, Hid (w.heap.size + 2 = x) := ⟨_, rfl⟩
  rw [hh3.out] at hs0
  have hh3' := hh3.out
  obtain ⟨u0, hu0⟩ : ∃ x, Hid (W0.alloc (.cells (.int .i64 kd :: .int .i64 0 :: (bCs ++ (vCs ++ pCs))).toArray 38) = x) := ⟨_, rfl⟩
  have ST : Hid (∀ Z : Array Value, Z.size = 28 → (Instr.storeAt 38 (.pointer (some ⟨h3, 0, none⟩)) (.agg (.int .i64 kd :: .int .i64 0 :: (bCs ++ (vCs ++ pCs))).toArray)).run Try.prog (W0.alloc (.cells Z 38)) = .ok () u0) := fun Z hZ => by
    rw [← hu0.out]
    exact store_new infoEv rfl hZ (by simp [Value.oneCell']) hs0.symm
  have hb1 : Below W0.heap.size W0 u0 := by rw [← hu0.out]; exact below_alloc _ _
  have X3 : Hid (u0.heap[h3]? = some (.cells (.int .i64 kd :: .int .i64 0 :: (bCs ++ (vCs ++ pCs))).toArray 38 (0, 0))) := show _ = _ by rw [← hu0.out, ← hs0]; exact heap_alloc_new _ _
  have Y1 := hide ((hb1.block w.heap.size (by omega)).trans X1)
  have Y2 := hide ((hb1.block (w.heap.size + 1) (by omega)).trans X2)
  have HB := hide (hb0.trans (hb1.mono (by omega)))
  have hsu : h3 + 1 ≤ u0.heap.size := by rw [← hu0.out, ← hs0]; simp
  have g0 : u0.cell? ⟨h3, 0, none⟩ = some (.int .i64 kd) := cell_of_row u0 h3 0 _ _ _ X3.out
  have hh := fun i => cell_of_row u0 w.heap.size i _ _ _ Y1.out
  have g0' : u0.cell? ⟨w.heap.size, 0, none⟩ = some (.int .i64 kd) := hh 0
  have HH3 := hide hh3'
  have HS0 := hide hs0
  clear hb1 hb0 X1 X2 hu0 hh3' hs0
  go_upto_region 2 with (refine wpList_store_at 38 (.tmp 3) (.tmp 6) rfl rfl (.pointer (some ⟨h3, 0, none⟩)) (.agg _) (by rw [← HS0.out]; rfl) rfl _ (ST.out _ rfl) ?_)
  rw [HS0.out]
  clear ST q0
  have hl3 : w.heap.size + 2 ≤ h3 := Nat.le_of_eq HH3.out
  by_cases k0 : kd = 0
  · subst k0
    have HV : Hid (bareX ⟨0, es, bk, vt, pf⟩ = ⟨0, es, bkZ, vtZ, pfZ⟩) := rfl
    have g1 : u0.cell? ⟨w.heap.size, 1, none⟩ = some (.int .i64 es) := hh 1
    clear hh
    have c1' : u0.cell? ⟨h3, 1, none⟩ = some (.int .i64 0) := cell_of_row u0 h3 1 _ _ _ X3.out
    have f1 : u0.frozen? ⟨h3, 1, none⟩ = false := by unfold World.frozen?; rw [X3.out]; simp
    obtain ⟨w3, hw3⟩ : ∃ x, Hid (u0.setCell ⟨h3, 1, none⟩ (.int .i64 es) = x) := ⟨_, rfl⟩
    have hA3 : Apart h3 u0 w3 := by rw [← hw3.out]; exact (Apart.refl _ _).set _ _
    have hx3' : w3.heap[h3]? = some (.cells (.int .i64 0 :: .int .i64 es :: (bCs ++ (vCs ++ pCs))).toArray 38 (0, 0)) := by rw [← hw3.out]; exact set_obj X3.out 1 _
    have ECx : EventC (filt tyA (h3 + 1) w3) (.int .i64 0 :: .int .i64 es :: (bCs ++ (vCs ++ pCs))) ⟨0, es, bkZ, vtZ, pfZ⟩ := ⟨⟨by simp [IsI64], BS.out⟩, _, _, _, rfl, bkZC _, vtZC _, pfZC _⟩
    have hx2 := Y2.out
    have hs2 := hsu
    have hbw := HB.out
    have hb3 : Below w.heap.size u0 w3 := hA3.old _ (by omega) (by omega)
    go_upto_region 11 with fail
    rw [hw3.out]
    have hx2' := (hA3.block (w.heap.size + 1) (by omega) (by omega)).trans hx2
    have hl28 := ECx.one.2
    have LD := hide (load_obj Try.underlying38 infoEv (by rw [List.size_toArray]; exact hl28) hx3')
    obtain ⟨w4, hrun, hx4, hA4⟩ := store_obj (P := Try.prog) infoEv hl28 (by rfl) ECx.one.1 hx2'
    have RUN := hide hrun
    have X4 := hide hx4
    have hb4 : Below w.heap.size w3 w4 := hA4.old _ (by have := hA3.size; omega) (by omega)
    have B4 := hide ((hbw.trans hb3).trans hb4)
    have EC4 := hide ((ECx.ext (filt_apart hA4 (by omega))).ext (filt_mono (q := tyA) (B := w.heap.size) w4 (by omega) (fun t h => h)))
    have HL := hide hl28
    clear hrun hx4 hA4 hA3 hx2 hx2' hx3' hb3 hb4 ECx hl28 hbw
    go_wp2_with (first
      | (refine wpList_load_at 38 (.tmp 3) rfl rfl (.pointer (some ⟨h3, 0, none⟩)) rfl (.agg _) LD.out ?_)
      | (refine wpList_store_at 38 (.tmp 2) (.tmp 32) rfl rfl (.pointer (some ⟨w.heap.size + 1, 0, none⟩)) (.agg _) rfl rfl _ RUN.out ?_))
    refine ret_struct rfl rfl X4.out Try.underlying38 (by rw [HL.out]; exact infoEv) rfl ⟨_, rfl, ?_, B4.out⟩
    rw [HV.out]
    exact EC4.out
  by_cases k1 : kd = 1
  · subst k1
    have HV : Hid (bareX ⟨1, es, bk, vt, pf⟩ = ⟨1, 0, bk, vtZ, pfZ⟩) := rfl
    have g2 : u0.cell? ⟨w.heap.size, 2, none⟩ = some (.int .u64 bk.root) := hh 2
    have g3 : u0.cell? ⟨w.heap.size, 3, none⟩ = some (.int .u64 bk.parent) := hh 3
    have g4 : u0.cell? ⟨w.heap.size, 4, none⟩ = some (.int .i64 bk.slot) := hh 4
    have g5 : u0.cell? ⟨w.heap.size, 5, none⟩ = some (.slice a1 l1 c1) := hh 5
    have g6 : u0.cell? ⟨w.heap.size, 6, none⟩ = some (.slice a2 l2 c2) := hh 6
    clear hh
    go_wp2_with fail
    refine (copyBlock_any bk _ _ (HBK.out.below HB.out) HOK.out.1).mono ?_
    rintro e w2 ⟨cs2, rfl, hv2, hb2⟩
    have hx3 := (hb2.block h3 (by omega)).trans X3.out
    have hx2 := (hb2.block (w.heap.size + 1) (by omega)).trans Y2.out
    have hs2 : h3 + 1 ≤ w2.heap.size := Nat.le_trans hsu hb2.size
    have hbw := HB.out.trans (hb2.mono HB.out.size)
    obtain ⟨w3, hrun3, hx3', hA3⟩ := store_part (P := Try.prog) (o := 2) (cs := cs2) infoBk hv2.one.2 (by simp) hv2.one.1 hx3
    rw [show (.int .i64 1 :: .int .i64 0 :: (bCs ++ (vCs ++ pCs)) : List Value) = [.int .i64 1, .int .i64 0] ++ (bCs ++ (vCs ++ pCs)) from rfl, wrote_at [.int .i64 1, .int .i64 0] bCs (vCs ++ pCs) cs2 2 rfl (by rw [hv2.one.2]; rfl)] at hx3'
    have RUN3 := hide hrun3
    have ECx : EventC (filt tyA (h3 + 1) w3) (.int .i64 1 :: .int .i64 0 :: (cs2 ++ (vCs ++ pCs))) ⟨1, 0, bk, vtZ, pfZ⟩ := ⟨⟨by simp [IsI64], by simp [IsI64]⟩, _, _, _, rfl, (hv2.ext (filt_mono (q := tyA) (B := h3 + 1) w2 hsu (fun t h => h))).ext (filt_apart hA3 (by omega)), vtZC _, pfZC _⟩
    have hb3 : Below w.heap.size w2 w3 := hA3.old _ (by omega) (by omega)
    clear hrun3 hv2
    go_upto_region 11 with (refine wpList_store_at 29 (.tmp 19) (.tmp 18) rfl rfl (.pointer (some ⟨h3, 2, none⟩)) (.agg _) rfl rfl _ RUN3.out ?_)
    have hx2' := (hA3.block (w.heap.size + 1) (by omega) (by omega)).trans hx2
    have hl28 := ECx.one.2
    have LD := hide (load_obj Try.underlying38 infoEv (by rw [List.size_toArray]; exact hl28) hx3')
    obtain ⟨w4, hrun, hx4, hA4⟩ := store_obj (P := Try.prog) infoEv hl28 (by rfl) ECx.one.1 hx2'
    have RUN := hide hrun
    have X4 := hide hx4
    have hb4 : Below w.heap.size w3 w4 := hA4.old _ (by have := hA3.size; omega) (by omega)
    have B4 := hide ((hbw.trans hb3).trans hb4)
    have EC4 := hide ((ECx.ext (filt_apart hA4 (by omega))).ext (filt_mono (q := tyA) (B := w.heap.size) w4 (by omega) (fun t h => h)))
    have HL := hide hl28
    clear hrun hx4 hA4 hA3 hx2 hx2' hx3' hb3 hb4 ECx hl28 hbw
    go_wp2_with (first
      | (refine wpList_load_at 38 (.tmp 3) rfl rfl (.pointer (some ⟨h3, 0, none⟩)) rfl (.agg _) LD.out ?_)
      | (refine wpList_store_at 38 (.tmp 2) (.tmp 32) rfl rfl (.pointer (some ⟨w.heap.size + 1, 0, none⟩)) (.agg _) rfl rfl _ RUN.out ?_))
    refine ret_struct rfl rfl X4.out Try.underlying38 (by rw [HL.out]; exact infoEv) rfl ⟨_, rfl, ?_, B4.out⟩
    rw [HV.out]
    exact EC4.out
  by_cases k2 : kd = 2
  · subst k2
    have HV : Hid (bareX ⟨2, es, bk, vt, pf⟩ = ⟨2, 0, bkZ, vt, pfZ⟩) := rfl
    have g7 : u0.cell? ⟨w.heap.size, 7, none⟩ = some (.int .i64 vt.slot) := hh 7
    have g8 : u0.cell? ⟨w.heap.size, 8, none⟩ = some (.int .u64 vt.head) := hh 8
    have g9 : u0.cell? ⟨w.heap.size, 9, none⟩ = some (.int .i64 vt.sE) := hh 9
    have g10 : u0.cell? ⟨w.heap.size, 10, none⟩ = some (.int .u64 vt.sR) := hh 10
    have g11 : u0.cell? ⟨w.heap.size, 11, none⟩ = some (.int .i64 vt.tE) := hh 11
    have g12 : u0.cell? ⟨w.heap.size, 12, none⟩ = some (.int .u64 vt.tR) := hh 12
    have g13 : u0.cell? ⟨w.heap.size, 13, none⟩ = some (.slice a3 l3 c3) := hh 13
    clear hh
    go_wp2_with fail
    refine (copyVote_any vt _ _ (HVT.out.below HB.out) HOK.out.2.1).mono ?_
    rintro e w2 ⟨cs2, rfl, hv2, hb2⟩
    have hx3 := (hb2.block h3 (by omega)).trans X3.out
    have hx2 := (hb2.block (w.heap.size + 1) (by omega)).trans Y2.out
    have hs2 : h3 + 1 ≤ w2.heap.size := Nat.le_trans hsu hb2.size
    have hbw := HB.out.trans (hb2.mono HB.out.size)
    obtain ⟨w3, hrun3, hx3', hA3⟩ := store_part (P := Try.prog) (o := 7) (cs := cs2) infoVt hv2.one.2 (by simp) hv2.one.1 hx3
    rw [show (.int .i64 2 :: .int .i64 0 :: (bCs ++ (vCs ++ pCs)) : List Value) = (.int .i64 2 :: .int .i64 0 :: bCs) ++ (vCs ++ pCs) from rfl, wrote_at (.int .i64 2 :: .int .i64 0 :: bCs) vCs pCs cs2 7 rfl (by rw [hv2.one.2]; rfl)] at hx3'
    have RUN3 := hide hrun3
    have ECx : EventC (filt tyA (h3 + 1) w3) (.int .i64 2 :: .int .i64 0 :: (bCs ++ (cs2 ++ pCs))) ⟨2, 0, bkZ, vt, pfZ⟩ := ⟨⟨by simp [IsI64], by simp [IsI64]⟩, _, _, _, rfl, bkZC _, (hv2.ext (filt_mono (q := tyA) (B := h3 + 1) w2 hsu (fun t h => by simp only [tyI, tyA] at h ⊢; rw [h]; rfl))).ext (filt_apart hA3 (by omega)), pfZC _⟩
    have hb3 : Below w.heap.size w2 w3 := hA3.old _ (by omega) (by omega)
    clear hrun3 hv2
    go_upto_region 11 with (refine wpList_store_at 34 (.tmp 25) (.tmp 24) rfl rfl (.pointer (some ⟨h3, 7, none⟩)) (.agg _) rfl rfl _ RUN3.out ?_)
    have hx2' := (hA3.block (w.heap.size + 1) (by omega) (by omega)).trans hx2
    have hl28 := ECx.one.2
    have LD := hide (load_obj Try.underlying38 infoEv (by rw [List.size_toArray]; exact hl28) hx3')
    obtain ⟨w4, hrun, hx4, hA4⟩ := store_obj (P := Try.prog) infoEv hl28 (by rfl) ECx.one.1 hx2'
    have RUN := hide hrun
    have X4 := hide hx4
    have hb4 : Below w.heap.size w3 w4 := hA4.old _ (by have := hA3.size; omega) (by omega)
    have B4 := hide ((hbw.trans hb3).trans hb4)
    have EC4 := hide ((ECx.ext (filt_apart hA4 (by omega))).ext (filt_mono (q := tyA) (B := w.heap.size) w4 (by omega) (fun t h => h)))
    have HL := hide hl28
    clear hrun hx4 hA4 hA3 hx2 hx2' hx3' hb3 hb4 ECx hl28 hbw
    go_wp2_with (first
      | (refine wpList_load_at 38 (.tmp 3) rfl rfl (.pointer (some ⟨h3, 0, none⟩)) rfl (.agg _) LD.out ?_)
      | (refine wpList_store_at 38 (.tmp 2) (.tmp 32) rfl rfl (.pointer (some ⟨w.heap.size + 1, 0, none⟩)) (.agg _) rfl rfl _ RUN.out ?_))
    refine ret_struct rfl rfl X4.out Try.underlying38 (by rw [HL.out]; exact infoEv) rfl ⟨_, rfl, ?_, B4.out⟩
    rw [HV.out]
    exact EC4.out
  by_cases k3 : kd = 3
  · subst k3
    have HV : Hid (bareX ⟨3, es, bk, vt, pf⟩ = ⟨3, 0, bkZ, vtZ, pf⟩) := rfl
    have g14 : u0.cell? ⟨w.heap.size, 14, none⟩ = some (.int .i64 pf.a.slot) := hh 14
    have g15 : u0.cell? ⟨w.heap.size, 15, none⟩ = some (.int .u64 pf.a.head) := hh 15
    have g16 : u0.cell? ⟨w.heap.size, 16, none⟩ = some (.int .i64 pf.a.sE) := hh 16
    have g17 : u0.cell? ⟨w.heap.size, 17, none⟩ = some (.int .u64 pf.a.sR) := hh 17
    have g18 : u0.cell? ⟨w.heap.size, 18, none⟩ = some (.int .i64 pf.a.tE) := hh 18
    have g19 : u0.cell? ⟨w.heap.size, 19, none⟩ = some (.int .u64 pf.a.tR) := hh 19
    have g20 : u0.cell? ⟨w.heap.size, 20, none⟩ = some (.slice a4 l4 c4) := hh 20
    have g21 : u0.cell? ⟨w.heap.size, 21, none⟩ = some (.int .i64 pf.b.slot) := hh 21
    have g22 : u0.cell? ⟨w.heap.size, 22, none⟩ = some (.int .u64 pf.b.head) := hh 22
    have g23 : u0.cell? ⟨w.heap.size, 23, none⟩ = some (.int .i64 pf.b.sE) := hh 23
    have g24 : u0.cell? ⟨w.heap.size, 24, none⟩ = some (.int .u64 pf.b.sR) := hh 24
    have g25 : u0.cell? ⟨w.heap.size, 25, none⟩ = some (.int .i64 pf.b.tE) := hh 25
    have g26 : u0.cell? ⟨w.heap.size, 26, none⟩ = some (.int .u64 pf.b.tR) := hh 26
    have g27 : u0.cell? ⟨w.heap.size, 27, none⟩ = some (.slice a5 l5 c5) := hh 27
    clear hh
    go_wp2_with fail
    refine (copyProof_any pf _ _ (HPF.out.below HB.out) HOK.out.2.2.1 HOK.out.2.2.2).mono ?_
    rintro e w2 ⟨cs2, rfl, hv2, hb2⟩
    have hx3 := (hb2.block h3 (by omega)).trans X3.out
    have hx2 := (hb2.block (w.heap.size + 1) (by omega)).trans Y2.out
    have hs2 : h3 + 1 ≤ w2.heap.size := Nat.le_trans hsu hb2.size
    have hbw := HB.out.trans (hb2.mono HB.out.size)
    obtain ⟨w3, hrun3, hx3', hA3⟩ := store_part (P := Try.prog) (o := 14) (cs := cs2) infoPf hv2.one.2 (by simp) hv2.one.1 hx3
    rw [show (.int .i64 3 :: .int .i64 0 :: (bCs ++ (vCs ++ pCs)) : List Value) = (.int .i64 3 :: .int .i64 0 :: (bCs ++ vCs)) ++ (pCs ++ []) from rfl, wrote_at (.int .i64 3 :: .int .i64 0 :: (bCs ++ vCs)) pCs [] cs2 14 rfl (by rw [hv2.one.2]; rfl), List.append_nil] at hx3'
    have RUN3 := hide hrun3
    have ECx : EventC (filt tyA (h3 + 1) w3) ((.int .i64 3 :: .int .i64 0 :: (bCs ++ vCs)) ++ cs2) ⟨3, 0, bkZ, vtZ, pf⟩ := ⟨⟨by simp [IsI64], by simp [IsI64]⟩, _, _, _, rfl, bkZC _, vtZC _, (hv2.ext (filt_mono (q := tyA) (B := h3 + 1) w2 hsu (fun t h => by simp only [tyI, tyA] at h ⊢; rw [h]; rfl))).ext (filt_apart hA3 (by omega))⟩
    have hb3 : Below w.heap.size w2 w3 := hA3.old _ (by omega) (by omega)
    clear hrun3 hv2
    go_upto_region 11 with (refine wpList_store_at 36 (.tmp 31) (.tmp 30) rfl rfl (.pointer (some ⟨h3, 14, none⟩)) (.agg _) rfl rfl _ RUN3.out ?_)
    have hx2' := (hA3.block (w.heap.size + 1) (by omega) (by omega)).trans hx2
    have hl28 := ECx.one.2
    have LD := hide (load_obj Try.underlying38 infoEv (by rw [List.size_toArray]; exact hl28) hx3')
    obtain ⟨w4, hrun, hx4, hA4⟩ := store_obj (P := Try.prog) infoEv hl28 (by rfl) ECx.one.1 hx2'
    have RUN := hide hrun
    have X4 := hide hx4
    have hb4 : Below w.heap.size w3 w4 := hA4.old _ (by have := hA3.size; omega) (by omega)
    have B4 := hide ((hbw.trans hb3).trans hb4)
    have EC4 := hide ((ECx.ext (filt_apart hA4 (by omega))).ext (filt_mono (q := tyA) (B := w.heap.size) w4 (by omega) (fun t h => h)))
    have HL := hide hl28
    clear hrun hx4 hA4 hA3 hx2 hx2' hx3' hb3 hb4 ECx hl28 hbw
    go_wp2_with (first
      | (refine wpList_load_at 38 (.tmp 3) rfl rfl (.pointer (some ⟨h3, 0, none⟩)) rfl (.agg _) LD.out ?_)
      | (refine wpList_store_at 38 (.tmp 2) (.tmp 32) rfl rfl (.pointer (some ⟨w.heap.size + 1, 0, none⟩)) (.agg _) rfl rfl _ RUN.out ?_))
    refine ret_struct rfl rfl X4.out Try.underlying38 (by rw [HL.out]; exact infoEv) rfl ⟨_, rfl, ?_, B4.out⟩
    rw [HV.out]
    exact EC4.out
  have HV : Hid (bareX ⟨kd, es, bk, vt, pf⟩ = ⟨kd, 0, bkZ, vtZ, pfZ⟩) := show _ = _ by simp only [bareX, if_neg k0, if_neg k1, if_neg k2, if_neg k3]
  have hx3' := X3.out
  have ECx : EventC (filt tyA (h3 + 1) u0) (.int .i64 kd :: .int .i64 0 :: (bCs ++ (vCs ++ pCs))) ⟨kd, 0, bkZ, vtZ, pfZ⟩ := ⟨⟨BK.out, by simp [IsI64]⟩, _, _, _, rfl, bkZC _, vtZC _, pfZC _⟩
  have hx2 := Y2.out
  have hbw := HB.out
  have b0 : (kd == 0) = false := by simp [k0]
  have b1 : (kd == 1) = false := by simp [k1]
  have b2 : (kd == 2) = false := by simp [k2]
  have b3 : (kd == 3) = false := by simp [k3]
  clear hh
  go_upto_region 11 with fail
  have hx2' := hx2
  have hl28 := ECx.one.2
  have LD := hide (load_obj Try.underlying38 infoEv (by rw [List.size_toArray]; exact hl28) hx3')
  obtain ⟨w4, hrun, hx4, hA4⟩ := store_obj (P := Try.prog) infoEv hl28 (by rfl) ECx.one.1 hx2'
  have RUN := hide hrun
  have X4 := hide hx4
  have hb4 : Below w.heap.size u0 w4 := hA4.old _ (by omega) (by omega)
  have B4 := hide (hbw.trans hb4)
  have EC4 := hide ((ECx.ext (filt_apart hA4 (by omega))).ext (filt_mono (q := tyA) (B := w.heap.size) w4 (by omega) (fun t h => h)))
  have HL := hide hl28
  clear hrun hx4 hA4 hx2 hx2' hx3' hb4 ECx hl28 hbw
  go_wp2_with (first
    | (refine wpList_load_at 38 (.tmp 3) rfl rfl (.pointer (some ⟨h3, 0, none⟩)) rfl (.agg _) LD.out ?_)
    | (refine wpList_store_at 38 (.tmp 2) (.tmp 32) rfl rfl (.pointer (some ⟨w.heap.size + 1, 0, none⟩)) (.agg _) rfl rfl _ RUN.out ?_))
  refine ret_struct rfl rfl X4.out Try.underlying38 (by rw [HL.out]; exact infoEv) rfl ⟨_, rfl, ?_, B4.out⟩
  rw [HV.out]
  exact EC4.out
end Go.Proofs.Ytdigpjfgjlhhjaa

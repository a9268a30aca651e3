/-
  what does not count of an event changes neither its bytes nor whether it has some (WireBare is true of every input).
-/
import Derived.Test.YtdigpjfgjlhhjaaRows

import Derived.WalkKit

import Derived.Below

import Derived.ProofKit

import Derived.OpenShut

import Derived.ShutString

import Derived.ChangeOld

import Derived.SizedLaws

import Derived.Test.YtdigpjfgjlhhjaaShapesS

import Derived.Test.YtdigpjfgjlhhjaaBSize

import Derived.Test.YtdigpjfgjlhhjaaBPure

import Derived.Test.YtdigpjfgjlhhjaaWAwake

import Derived.Test.YtdigpjfgjlhhjaaWMore

namespace Go.Proofs.Ytdigpjfgjlhhjaa.wireBare

open Go.ChangeShapes Go.WideShapes Go.ChangeAt Go.RowKit

set_option linter.unusedVariables false

theorem own : ownKnob Try.prog.godebug = none := by kernel_rfl
theorem laidOut : laidOutB Try.prog = true := by kernel_rfl
theorem cells3 : Try.prog.cellsOf 3 = 1 := by kernel_rfl
theorem cells4 : Try.prog.cellsOf 4 = 1 := by kernel_rfl
theorem cells24 : Try.prog.cellsOf 24 = 1 := by kernel_rfl
theorem cells25 : Try.prog.cellsOf 25 = 1 := by kernel_rfl
theorem cells26 : Try.prog.cellsOf 26 = 1 := by kernel_rfl
theorem cells27 : Try.prog.cellsOf 27 = 1 := by kernel_rfl
theorem cells29 : Try.prog.cellsOf 29 = 5 := by kernel_rfl
theorem cells31 : Try.prog.cellsOf 31 = 2 := by kernel_rfl
theorem cells32 : Try.prog.cellsOf 32 = 1 := by kernel_rfl
theorem cells34 : Try.prog.cellsOf 34 = 7 := by kernel_rfl
theorem cells36 : Try.prog.cellsOf 36 = 14 := by kernel_rfl
theorem cells38 : Try.prog.cellsOf 38 = 28 := by kernel_rfl
theorem has24 : Sh.Has Try.prog (.int .i64) (.inl 24) := Try.underlying24
theorem has3 : Sh.Has Try.prog (.int .i64) (.inl 3) := Try.underlying3
theorem has25 : Sh.Has Try.prog (.int .u64) (.inl 25) := Try.underlying25
theorem has31 : Sh.Has Try.prog (.st (.pair (.int .i64) (.pair (.int .u64) .unit))) (.inl 31) := Sh.has_st Try.underlying31 (by kernel_rfl) (Sh.has_pair rfl (by kernel_rfl) has3 (Sh.has_pair rfl (by kernel_rfl) has25 Sh.has_unit))
theorem has32 : Sh.Has Try.prog (.slice (.int .i64)) (.inl 32) := Sh.has_slice Try.underlying32 (by kernel_rfl) (by decide) has3
theorem has34 : Sh.Has Try.prog (.st (.pair (.int .i64) (.pair (.int .u64) (.pair (.st (.pair (.int .i64) (.pair (.int .u64) .unit))) (.pair (.st (.pair (.int .i64) (.pair (.int .u64) .unit))) (.pair (.slice (.int .i64)) .unit)))))) (.inl 34) := Sh.has_st Try.underlying34 (by kernel_rfl) (Sh.has_pair rfl (by kernel_rfl) has3 (Sh.has_pair rfl (by kernel_rfl) has25 (Sh.has_pair rfl (by kernel_rfl) has31 (Sh.has_pair rfl (by kernel_rfl) has31 (Sh.has_pair rfl (by kernel_rfl) has32 Sh.has_unit)))))
theorem has26 : Sh.Has Try.prog (.slice (.st (.pair (.int .i64) (.pair (.int .u64) (.pair (.st (.pair (.int .i64) (.pair (.int .u64) .unit))) (.pair (.st (.pair (.int .i64) (.pair (.int .u64) .unit))) (.pair (.slice (.int .i64)) .unit))))))) (.inl 26) := Sh.has_slice Try.underlying26 (by kernel_rfl) (by decide) has34
theorem has36 : Sh.Has Try.prog (.st (.pair (.st (.pair (.int .i64) (.pair (.int .u64) (.pair (.st (.pair (.int .i64) (.pair (.int .u64) .unit))) (.pair (.st (.pair (.int .i64) (.pair (.int .u64) .unit))) (.pair (.slice (.int .i64)) .unit)))))) (.pair (.st (.pair (.int .i64) (.pair (.int .u64) (.pair (.st (.pair (.int .i64) (.pair (.int .u64) .unit))) (.pair (.st (.pair (.int .i64) (.pair (.int .u64) .unit))) (.pair (.slice (.int .i64)) .unit)))))) .unit))) (.inl 36) := Sh.has_st Try.underlying36 (by kernel_rfl) (Sh.has_pair rfl (by kernel_rfl) has34 (Sh.has_pair rfl (by kernel_rfl) has34 Sh.has_unit))
theorem has27 : Sh.Has Try.prog (.slice (.st (.pair (.st (.pair (.int .i64) (.pair (.int .u64) (.pair (.st (.pair (.int .i64) (.pair (.int .u64) .unit))) (.pair (.st (.pair (.int .i64) (.pair (.int .u64) .unit))) (.pair (.slice (.int .i64)) .unit)))))) (.pair (.st (.pair (.int .i64) (.pair (.int .u64) (.pair (.st (.pair (.int .i64) (.pair (.int .u64) .unit))) (.pair (.st (.pair (.int .i64) (.pair (.int .u64) .unit))) (.pair (.slice (.int .i64)) .unit)))))) .unit)))) (.inl 27) := Sh.has_slice Try.underlying27 (by kernel_rfl) (by decide) has36
theorem has29 : Sh.Has Try.prog (.st (.pair (.int .u64) (.pair (.int .u64) (.pair (.int .i64) (.pair (.slice (.st (.pair (.int .i64) (.pair (.int .u64) (.pair (.st (.pair (.int .i64) (.pair (.int .u64) .unit))) (.pair (.st (.pair (.int .i64) (.pair (.int .u64) .unit))) (.pair (.slice (.int .i64)) .unit))))))) (.pair (.slice (.st (.pair (.st (.pair (.int .i64) (.pair (.int .u64) (.pair (.st (.pair (.int .i64) (.pair (.int .u64) .unit))) (.pair (.st (.pair (.int .i64) (.pair (.int .u64) .unit))) (.pair (.slice (.int .i64)) .unit)))))) (.pair (.st (.pair (.int .i64) (.pair (.int .u64) (.pair (.st (.pair (.int .i64) (.pair (.int .u64) .unit))) (.pair (.st (.pair (.int .i64) (.pair (.int .u64) .unit))) (.pair (.slice (.int .i64)) .unit)))))) .unit)))) .unit)))))) (.inl 29) := Sh.has_st Try.underlying29 (by kernel_rfl) (Sh.has_pair rfl (by kernel_rfl) has25 (Sh.has_pair rfl (by kernel_rfl) has25 (Sh.has_pair rfl (by kernel_rfl) has3 (Sh.has_pair rfl (by kernel_rfl) has26 (Sh.has_pair rfl (by kernel_rfl) has27 Sh.has_unit)))))
theorem has38 : Sh.Has Try.prog (.st (.pair (.int .i64) (.pair (.int .i64) (.pair (.st (.pair (.int .u64) (.pair (.int .u64) (.pair (.int .i64) (.pair (.slice (.st (.pair (.int .i64) (.pair (.int .u64) (.pair (.st (.pair (.int .i64) (.pair (.int .u64) .unit))) (.pair (.st (.pair (.int .i64) (.pair (.int .u64) .unit))) (.pair (.slice (.int .i64)) .unit))))))) (.pair (.slice (.st (.pair (.st (.pair (.int .i64) (.pair (.int .u64) (.pair (.st (.pair (.int .i64) (.pair (.int .u64) .unit))) (.pair (.st (.pair (.int .i64) (.pair (.int .u64) .unit))) (.pair (.slice (.int .i64)) .unit)))))) (.pair (.st (.pair (.int .i64) (.pair (.int .u64) (.pair (.st (.pair (.int .i64) (.pair (.int .u64) .unit))) (.pair (.st (.pair (.int .i64) (.pair (.int .u64) .unit))) (.pair (.slice (.int .i64)) .unit)))))) .unit)))) .unit)))))) (.pair (.st (.pair (.int .i64) (.pair (.int .u64) (.pair (.st (.pair (.int .i64) (.pair (.int .u64) .unit))) (.pair (.st (.pair (.int .i64) (.pair (.int .u64) .unit))) (.pair (.slice (.int .i64)) .unit)))))) (.pair (.st (.pair (.st (.pair (.int .i64) (.pair (.int .u64) (.pair (.st (.pair (.int .i64) (.pair (.int .u64) .unit))) (.pair (.st (.pair (.int .i64) (.pair (.int .u64) .unit))) (.pair (.slice (.int .i64)) .unit)))))) (.pair (.st (.pair (.int .i64) (.pair (.int .u64) (.pair (.st (.pair (.int .i64) (.pair (.int .u64) .unit))) (.pair (.st (.pair (.int .i64) (.pair (.int .u64) .unit))) (.pair (.slice (.int .i64)) .unit)))))) .unit))) .unit)))))) (.inl 38) := Sh.has_st Try.underlying38 (by kernel_rfl) (Sh.has_pair rfl (by kernel_rfl) has24 (Sh.has_pair rfl (by kernel_rfl) has3 (Sh.has_pair rfl (by kernel_rfl) has29 (Sh.has_pair rfl (by kernel_rfl) has34 (Sh.has_pair rfl (by kernel_rfl) has36 Sh.has_unit)))))
theorem evD_bare {e : Ev} (h : evD e) : evD (bareX e) := by
  have hz : bkD bkZ := ⟨by simp [bkZ], by simp [bkZ], by simp [bkZ], by simp [bkZ]⟩
  have hv : vtZ.who.length ≤ 17592186044416 := by simp [vtZ]
  have hp : pfZ.a.who.length ≤ 17592186044416 ∧ pfZ.b.who.length ≤ 17592186044416 := by simp [pfZ, vtZ]
  unfold bareX
  split
  · exact ⟨hz, hv, hp⟩
  · split
    · exact ⟨h.1, hv, hp⟩
    · split
      · exact ⟨hz, h.2.1, hp⟩
      · split
        · exact ⟨hz, hv, h.2.2⟩
        · exact ⟨hz, hv, hp⟩
theorem evsB_one (e : Ev) : evsB [e] = evB e := by simp [evsB]
theorem encBs_bare (e : Ev) : encBs [bareX e] = encBs [e] := by
  unfold encBs
  rw [evsB_one, evsB_one, bareX_evB]
  split
  · rename_i h
    simp [bytesOf, evBytes, bareX_ns e h]
  · rfl
theorem bare2_slot (e : Ev) : (bareX (bareX e)).slot = (bareX e).slot := by
  rw [bareX_slot (bareX e), bareX_kind, bareX_slot]
  split <;> rfl

set_option maxHeartbeats 8000000 in
set_option maxRecDepth 100000 in
theorem walk (cs0 : List Value) (e0 : Sh.Val (.st (.pair (.int .i64) (.pair (.int .i64) (.pair (.st (.pair (.int .u64) (.pair (.int .u64) (.pair (.int .i64) (.pair (.slice (.st (.pair (.int .i64) (.pair (.int .u64) (.pair (.st (.pair (.int .i64) (.pair (.int .u64) .unit))) (.pair (.st (.pair (.int .i64) (.pair (.int .u64) .unit))) (.pair (.slice (.int .i64)) .unit))))))) (.pair (.slice (.st (.pair (.st (.pair (.int .i64) (.pair (.int .u64) (.pair (.st (.pair (.int .i64) (.pair (.int .u64) .unit))) (.pair (.st (.pair (.int .i64) (.pair (.int .u64) .unit))) (.pair (.slice (.int .i64)) .unit)))))) (.pair (.st (.pair (.int .i64) (.pair (.int .u64) (.pair (.st (.pair (.int .i64) (.pair (.int .u64) .unit))) (.pair (.st (.pair (.int .i64) (.pair (.int .u64) .unit))) (.pair (.slice (.int .i64)) .unit)))))) .unit)))) .unit)))))) (.pair (.st (.pair (.int .i64) (.pair (.int .u64) (.pair (.st (.pair (.int .i64) (.pair (.int .u64) .unit))) (.pair (.st (.pair (.int .i64) (.pair (.int .u64) .unit))) (.pair (.slice (.int .i64)) .unit)))))) (.pair (.st (.pair (.st (.pair (.int .i64) (.pair (.int .u64) (.pair (.st (.pair (.int .i64) (.pair (.int .u64) .unit))) (.pair (.st (.pair (.int .i64) (.pair (.int .u64) .unit))) (.pair (.slice (.int .i64)) .unit)))))) (.pair (.st (.pair (.int .i64) (.pair (.int .u64) (.pair (.st (.pair (.int .i64) (.pair (.int .u64) .unit))) (.pair (.st (.pair (.int .i64) (.pair (.int .u64) .unit))) (.pair (.slice (.int .i64)) .unit)))))) .unit))) .unit))))))) (w : World) (w0 : Sh.In (.st (.pair (.int .i64) (.pair (.int .i64) (.pair (.st (.pair (.int .u64) (.pair (.int .u64) (.pair (.int .i64) (.pair (.slice (.st (.pair (.int .i64) (.pair (.int .u64) (.pair (.st (.pair (.int .i64) (.pair (.int .u64) .unit))) (.pair (.st (.pair (.int .i64) (.pair (.int .u64) .unit))) (.pair (.slice (.int .i64)) .unit))))))) (.pair (.slice (.st (.pair (.st (.pair (.int .i64) (.pair (.int .u64) (.pair (.st (.pair (.int .i64) (.pair (.int .u64) .unit))) (.pair (.st (.pair (.int .i64) (.pair (.int .u64) .unit))) (.pair (.slice (.int .i64)) .unit)))))) (.pair (.st (.pair (.int .i64) (.pair (.int .u64) (.pair (.st (.pair (.int .i64) (.pair (.int .u64) .unit))) (.pair (.st (.pair (.int .i64) (.pair (.int .u64) .unit))) (.pair (.slice (.int .i64)) .unit)))))) .unit)))) .unit)))))) (.pair (.st (.pair (.int .i64) (.pair (.int .u64) (.pair (.st (.pair (.int .i64) (.pair (.int .u64) .unit))) (.pair (.st (.pair (.int .i64) (.pair (.int .u64) .unit))) (.pair (.slice (.int .i64)) .unit)))))) (.pair (.st (.pair (.st (.pair (.int .i64) (.pair (.int .u64) (.pair (.st (.pair (.int .i64) (.pair (.int .u64) .unit))) (.pair (.st (.pair (.int .i64) (.pair (.int .u64) .unit))) (.pair (.slice (.int .i64)) .unit)))))) (.pair (.st (.pair (.int .i64) (.pair (.int .u64) (.pair (.st (.pair (.int .i64) (.pair (.int .u64) .unit))) (.pair (.st (.pair (.int .i64) (.pair (.int .u64) .unit))) (.pair (.slice (.int .i64)) .unit)))))) .unit))) .unit)))))) w cs0 e0) (r0S : Sh.Sz Try.prog reachBytes (.st (.pair (.int .i64) (.pair (.int .i64) (.pair (.st (.pair (.int .u64) (.pair (.int .u64) (.pair (.int .i64) (.pair (.slice (.st (.pair (.int .i64) (.pair (.int .u64) (.pair (.st (.pair (.int .i64) (.pair (.int .u64) .unit))) (.pair (.st (.pair (.int .i64) (.pair (.int .u64) .unit))) (.pair (.slice (.int .i64)) .unit))))))) (.pair (.slice (.st (.pair (.st (.pair (.int .i64) (.pair (.int .u64) (.pair (.st (.pair (.int .i64) (.pair (.int .u64) .unit))) (.pair (.st (.pair (.int .i64) (.pair (.int .u64) .unit))) (.pair (.slice (.int .i64)) .unit)))))) (.pair (.st (.pair (.int .i64) (.pair (.int .u64) (.pair (.st (.pair (.int .i64) (.pair (.int .u64) .unit))) (.pair (.st (.pair (.int .i64) (.pair (.int .u64) .unit))) (.pair (.slice (.int .i64)) .unit)))))) .unit)))) .unit)))))) (.pair (.st (.pair (.int .i64) (.pair (.int .u64) (.pair (.st (.pair (.int .i64) (.pair (.int .u64) .unit))) (.pair (.st (.pair (.int .i64) (.pair (.int .u64) .unit))) (.pair (.slice (.int .i64)) .unit)))))) (.pair (.st (.pair (.st (.pair (.int .i64) (.pair (.int .u64) (.pair (.st (.pair (.int .i64) (.pair (.int .u64) .unit))) (.pair (.st (.pair (.int .i64) (.pair (.int .u64) .unit))) (.pair (.slice (.int .i64)) .unit)))))) (.pair (.st (.pair (.int .i64) (.pair (.int .u64) (.pair (.st (.pair (.int .i64) (.pair (.int .u64) .unit))) (.pair (.st (.pair (.int .i64) (.pair (.int .u64) .unit))) (.pair (.slice (.int .i64)) .unit)))))) .unit))) .unit)))))) (.inl 38) e0) :
    Calls Try.prog 4 #[.agg cs0.toArray] w fun e w' => e = .returned (.bool true) ∧ Below w.heap.size w w' := by
  have hD := evS r0S
  have hE := eventC_of w0
  clear w0 r0S
  generalize toEv e0 = e at *
  obtain ⟨a1, l1, c1, a2, l2, c2, a3, l3, c3, a4, l4, c4, a5, l5, c5, hEI⟩ := hE.out
  have hc := hEI.cells
  clear hEI
  have HE := hide hE
  have HD := hide hD
  have hone := hide hE.one
  clear hE hD
  obtain ⟨kd, hkd⟩ : ∃ x, Hid (e.kind = x) := ⟨_, rfl⟩
  obtain ⟨sl, hsl⟩ : ∃ x, Hid ((bareX e).slot = x) := ⟨_, rfl⟩
  have hsl0 : Hid (kd = 0 ∨ sl = 0) := hide (by
    rw [← hkd.out, ← hsl.out, bareX_slot]
    by_cases h : e.kind = 0
    · exact .inl h
    · exact .inr (by rw [if_neg h]))
  rw [hkd.out] at hc
  have HCS := hide hc
  have hc0 : Hid (cs0[0]? = some (.int .i64 kd)) := hide (by rw [hc]; rfl)
  clear hc
  obtain ⟨W0, hW0⟩ : ∃ x, Hid (w.alloc (.cells cs0.toArray 38) = x) := ⟨_, rfl⟩
  have OA : Hid (OAt W0 w.heap.size (.cells cs0.toArray 38)) := hide (by rw [← hW0.out]; exact OAt.new _ _)
  have HN : Hid (Below w.heap.size w W0) := hide (by rw [← hW0.out]; exact below_alloc _ _)
  have hW1 := hW0.out
  rw [HCS.out] at hW1
  obtain ⟨i0, hi, hz0, hz1, hz2⟩ := info_parts infoE
  suffices hgoal : Calls Try.prog 4 #[.agg cs0.toArray] w fun e w' => e = .returned (.bool true) ∧ Below w.heap.size w w' from hgoal
  rw [HCS.out]
  go_enter Try.func4, Try.ntmps4
  go_upto_region 1 with fail
  clear hW1 hW0
  go_wp2_with fail
  refine (awake_any _).mono ?_
  rintro r w1 ⟨rfl, hbel⟩
  replace OA := hide (OA.out.below hbel)
  replace HN := hide (HN.out.trans (hbel.mono HN.out.size))
  clear hbel
  have LD := hide (load_obj Try.underlying38 infoEv (by rw [List.size_toArray]; exact hone.out.2) OA.out.at_)
  go_wp2_with (refine wpList_load_at 38 (.tmp 1) rfl rfl (.pointer (some ⟨w.heap.size, 0, none⟩)) rfl (.agg cs0.toArray) LD.out ?_)
  refine (bare_any e cs0 w1 (HE.out.below HN.out) HD.out).mono ?_
  rintro r w2 ⟨cb, rfl, hcb, hbel⟩
  have hcb := hcb.ext (filt_ext _ _ _)
  have HB := hide hcb
  have honeB := hide hcb.one
  clear hcb LD
  replace OA := hide (OA.out.below hbel)
  replace HN := hide (HN.out.trans (hbel.mono HN.out.size))
  clear hbel
  obtain ⟨W3, hW3⟩ : ∃ x, Hid (w2.alloc (.cells cb.toArray 38) = x) := ⟨_, rfl⟩
  have ST : Hid (∀ Z : Array Value, Z.size = 28 → (Instr.storeAt 38 (.pointer (some ⟨w2.heap.size, 0, none⟩)) (.agg cb.toArray)).run Try.prog (w2.alloc (.cells Z 38)) = .ok () W3) := hide (fun Z hZ => by rw [← hW3.out]; exact store_new infoEv honeB.out.2 hZ honeB.out.1 rfl)
  have OB : Hid (OAt W3 w2.heap.size (.cells cb.toArray 38)) := hide (by rw [← hW3.out]; exact OAt.new _ _)
  have hbel : Below w2.heap.size w2 W3 := by rw [← hW3.out]; exact below_alloc _ _
  replace HB := hide (HB.out.below hbel)
  replace OA := hide (OA.out.below hbel)
  replace HN := hide (HN.out.trans (hbel.mono HN.out.size))
  clear hbel
  clear hW3
  have LD := hide (load_obj Try.underlying38 infoEv (by rw [List.size_toArray]; exact hone.out.2) OA.out.at_)
  have hR : Hid (RowsIn (EventC (W3.alloc (.cells cs0.toArray 38))) 28 (W3.alloc (.cells cs0.toArray 38)) (some ⟨W3.heap.size, 0, none⟩) 1 1 [e]) := hide (RowsIn.lit (R := EventC (W3.alloc (.cells cs0.toArray 38))) W3 W3.heap.size cs0 38 28 e rfl hone.out.2 ((HE.out.below HN.out).below (below_alloc _ _)))
  go_wp2_with (first
    | (refine wpList_store_at 38 (.tmp 3) (.tmp 11) rfl rfl (.pointer (some ⟨w2.heap.size, 0, none⟩)) (.agg cb.toArray) rfl rfl _ (ST.out _ rfl) ?_)
    | (refine wpList_load_at 38 (.tmp 1) rfl rfl (.pointer (some ⟨w.heap.size, 0, none⟩)) rfl (.agg cs0.toArray) LD.out ?_)
    | (refine wpList_build_one rfl 22 38 (.tmp 13) rfl cs0 28 rfl hone.out.2 (by omega) i0 _ Try.underlying22 hi hz0 hz1 ?_))
  refine (enc_any [e] _ _ _ _ hR.out).mono ?_
  rintro r w4 ⟨ao2, n2, d2, rfl, hn2, R2, hbel⟩
  rw [evsB_one]
  clear hR LD ST
  replace OA := hide (OA.out.alloc (.cells cs0.toArray 38))
  replace OB := hide (OB.out.alloc (.cells cs0.toArray 38))
  replace HN := hide (HN.out.alloc HN.out.size (.cells cs0.toArray 38))
  replace HB := hide ((HB.out.below (below_alloc _ _)).below hbel)
  replace OA := hide (OA.out.below hbel)
  replace OB := hide (OB.out.below hbel)
  replace HN := hide (HN.out.trans (hbel.mono HN.out.size))
  clear hbel
  have HR2 := hide R2
  clear R2
  have LD := hide (load_obj Try.underlying38 infoEv (by rw [List.size_toArray]; exact honeB.out.2) OB.out.at_)
  have hR : Hid (RowsIn (EventC (w4.alloc (.cells cb.toArray 38))) 28 (w4.alloc (.cells cb.toArray 38)) (some ⟨w4.heap.size, 0, none⟩) 1 1 [bareX e]) := hide (RowsIn.lit (R := EventC (w4.alloc (.cells cb.toArray 38))) w4 w4.heap.size cb 38 28 (bareX e) rfl honeB.out.2 (HB.out.below (below_alloc _ _)))
  go_wp2_with (first
    | (refine wpList_load_at 38 (.tmp 3) rfl rfl (.pointer (some ⟨w2.heap.size, 0, none⟩)) rfl (.agg cb.toArray) LD.out ?_)
    | (refine wpList_build_one rfl 22 38 (.tmp 19) rfl cb 28 rfl honeB.out.2 (by omega) i0 _ Try.underlying22 hi hz0 hz1 ?_))
  refine (enc_any [bareX e] _ _ _ _ hR.out).mono ?_
  rintro r w5 ⟨ao3, n3, d3, rfl, hn3, R3, hbel⟩
  rw [evsB_one, bareX_evB]
  rw [encBs_bare] at R3
  clear hR LD
  replace OA := hide (OA.out.alloc (.cells cb.toArray 38))
  replace OB := hide (OB.out.alloc (.cells cb.toArray 38))
  replace HR2 := hide (HR2.out.alloc (.cells cb.toArray 38))
  replace HN := hide (HN.out.alloc HN.out.size (.cells cb.toArray 38))
  replace HB := hide ((HB.out.below (below_alloc _ _)).below hbel)
  replace OA := hide (OA.out.below hbel)
  replace OB := hide (OB.out.below hbel)
  replace HR2 := hide (HR2.out.below hbel)
  replace HN := hide (HN.out.trans (hbel.mono HN.out.size))
  clear hbel
  have HR3 := hide R3
  clear R3
  obtain ⟨q, hq⟩ : ∃ q, Hid (evB e = q) := ⟨_, rfl⟩
  rw [hq.out]
  -- REGION 6
  obtain ⟨s1, hs1⟩ : ∃ x, Hid (strOfNums (encBs [e]) = x) := ⟨_, rfl⟩
  have hb01 : Hid (cb[0]? = some (.int .i64 kd) ∧ cb[1]? = some (.int .i64 sl)) := by
    obtain ⟨_, x, y, z, h, _⟩ := HB.out
    rw [h, ← hkd.out, ← hsl.out, bareX_kind]
    exact hide ⟨rfl, rfl⟩
  have HE5 := hide (HE.out.below HN.out)
  have hbc : Hid (Below w5.heap.size w5 w5.drew) := hide (Below.refl _ _).drew
  go_upto_region 6 with fail
  by_cases hk0 : kd = 0
  · have k1 : (kd == 0) = true := by simp [hk0]
    have k2 : decide (kd = 0) = true := by simp [hk0]
    clear hk0
    have hcs : Hid (∀ w', Below w5.heap.size w5 w' → w'.heap[w.heap.size]? = some (.cells cs0.toArray 38 (0, 0)) ∧ w'.heap[w2.heap.size]? = some (.cells cb.toArray 38 (0, 0)) ∧ w'.cell? ⟨w.heap.size, 0, none⟩ = some (.int .i64 kd) ∧ w'.cell? ⟨w2.heap.size, 0, none⟩ = some (.int .i64 kd) ∧ w'.cell? ⟨w2.heap.size, 1, none⟩ = some (.int .i64 sl) ∧ (convert 40 9 (.slice ao2 n2 d2)).run Try.prog w' = .ok (.string s1) w' ∧ (convert 40 9 (.slice ao3 n3 d3)).run Try.prog w' = .ok (.string s1) w') := hide (fun w' h =>
      have A := OA.out.below h
      have B := OB.out.below h
      ⟨A.at_, B.at_, (A.cell 0).trans (by simpa using hc0.out), (B.cell 0).trans (by simpa using hb01.out.1), (B.cell 1).trans (by simpa using hb01.out.2), by rw [← hs1.out]; exact conv_row (HR2.out.below h), by rw [← hs1.out]; exact conv_row (HR3.out.below h)⟩)
    refine wp_region_noPanic ?_
    refine wp_region_held_drew (S := fun w' => w'.heap[w.heap.size]? = some (.cells cs0.toArray 38 (0, 0)) ∧ w'.heap[w2.heap.size]? = some (.cells cb.toArray 38 (0, 0)) ∧ w'.cell? ⟨w.heap.size, 0, none⟩ = some (.int .i64 kd) ∧ w'.cell? ⟨w2.heap.size, 0, none⟩ = some (.int .i64 kd) ∧ w'.cell? ⟨w2.heap.size, 1, none⟩ = some (.int .i64 sl) ∧ (convert 40 9 (.slice ao2 n2 d2)).run Try.prog w' = .ok (.string s1) w' ∧ (convert 40 9 (.slice ao3 n3 d3)).run Try.prog w' = .ok (.string s1) w') (by kernel_rfl) (hcs.out _ hbc.out) (fun hHeld => ?_)
    refine take_set (i := 0) (v := .bool q) rfl rfl (by kernel_rfl) (by kernel_rfl) (by kernel_rfl) (fun _ _ _ h => h) (Or.inl ⟨by kernel_rfl, fun w' hSw => ?_⟩) hHeld ?_
    · go_simp
    simp only [List.set_cons_succ, List.set_cons_zero]
    refine take_set (i := 1) (v := .bool q) rfl rfl (by kernel_rfl) (by kernel_rfl) (by kernel_rfl) (fun _ _ _ h => h) (Or.inl ⟨by kernel_rfl, fun w' hSw => ?_⟩) hHeld ?_
    · go_simp
    simp only [List.set_cons_succ, List.set_cons_zero]
    refine take_set (i := 2) (v := .bool true) rfl rfl (by kernel_rfl) (by kernel_rfl) (by kernel_rfl) (fun _ _ _ h => h) (Or.inl ⟨by kernel_rfl, fun w' hSw => ?_⟩) hHeld ?_
    · go_simp
    simp only [List.set_cons_succ, List.set_cons_zero]
    refine take_set (i := 3) (v := .bool true) rfl rfl (by kernel_rfl) (by kernel_rfl) (by kernel_rfl) (fun _ _ _ h => h) (Or.inl ⟨by kernel_rfl, fun w' hSw => ?_⟩) hHeld ?_
    · go_simp
    simp only [List.set_cons_succ, List.set_cons_zero]
    refine take_set (i := 4) (v := .slice ao2 n2 d2) rfl rfl (by kernel_rfl) (by kernel_rfl) (by kernel_rfl) (fun _ _ _ h => h) (Or.inl ⟨by kernel_rfl, fun w' hSw => ?_⟩) hHeld ?_
    · go_simp
    simp only [List.set_cons_succ, List.set_cons_zero]
    refine take_set (i := 5) (v := .string s1) rfl rfl (by kernel_rfl) (by kernel_rfl) (by kernel_rfl) (fun _ _ _ h => h) (Or.inl ⟨by kernel_rfl, fun w' hSw => ?_⟩) hHeld ?_
    · go_simp
    simp only [List.set_cons_succ, List.set_cons_zero]
    refine take_set (i := 6) (v := .slice ao3 n3 d3) rfl rfl (by kernel_rfl) (by kernel_rfl) (by kernel_rfl) (fun _ _ _ h => h) (Or.inl ⟨by kernel_rfl, fun w' hSw => ?_⟩) hHeld ?_
    · go_simp
    simp only [List.set_cons_succ, List.set_cons_zero]
    refine take_set (i := 7) (v := .string s1) rfl rfl (by kernel_rfl) (by kernel_rfl) (by kernel_rfl) (fun _ _ _ h => h) (Or.inl ⟨by kernel_rfl, fun w' hSw => ?_⟩) hHeld ?_
    · go_simp
    simp only [List.set_cons_succ, List.set_cons_zero]
    refine take_set (i := 8) (v := .bool true) rfl rfl (by kernel_rfl) (by kernel_rfl) (by kernel_rfl) (fun _ _ _ h => h) (Or.inl ⟨by kernel_rfl, fun w' hSw => ?_⟩) hHeld ?_
    · go_simp
    simp only [List.set_cons_succ, List.set_cons_zero]
    refine take_set (i := 9) (v := .bool true) rfl rfl (by kernel_rfl) (by kernel_rfl) (by kernel_rfl) (fun _ _ _ h => h) (Or.inl ⟨by kernel_rfl, fun w' hSw => ?_⟩) hHeld ?_
    · go_simp
    simp only [List.set_cons_succ, List.set_cons_zero]
    refine take_set (i := 10) (v := .bool true) rfl rfl (by kernel_rfl) (by kernel_rfl) (by kernel_rfl) (fun _ _ _ h => h) (Or.inl ⟨by kernel_rfl, fun w' hSw => ?_⟩) hHeld ?_
    · go_simp
    simp only [List.set_cons_succ, List.set_cons_zero]
    refine take_event (i := 11) w.heap.size cs0 (.tmp 1) hone.out.2 rfl (by kernel_rfl) (by kernel_rfl) (by kernel_rfl) (fun _ _ _ h => h) rfl rfl rfl hHeld (fun w h => h.1) ?_
    refine take_event (i := 13) w2.heap.size cb (.tmp 3) honeB.out.2 rfl (by kernel_rfl) (by kernel_rfl) (by kernel_rfl) (fun _ _ _ h => h) rfl rfl rfl hHeld (fun w h => h.2.1) ?_
    refine wpAnyH_ready (rs := [12]) (by kernel_rfl) (by simp) ?_
    refine AllReadyH.cons (o := _) rfl (fun K hK => ?_) AllReadyH.nil
    go_simp
    refine (may_any e cs0 _ (HE5.out.below hbc.out)).mono ?_
    rintro r v ⟨rfl, hbel⟩
    rw [hq.out]
    replace hbc := hide (hbc.out.trans (hbel.mono hbc.out.size))
    clear hbel
    refine hK.out _ _ (hcs.out _ hbc.out) (fun hHeld => ?_)
    clear hK K
    refine wpAnyH_ready (rs := [14]) (by kernel_rfl) (by simp) ?_
    refine AllReadyH.cons (o := _) rfl (fun K hK => ?_) AllReadyH.nil
    go_simp
    refine (may_any (bareX e) cb _ (HB.out.below hbc.out)).mono ?_
    rintro r v ⟨rfl, hbel⟩
    rw [bareX_evB, hq.out]
    replace hbc := hide (hbc.out.trans (hbel.mono hbc.out.size))
    clear hbel
    refine hK.out _ _ (hcs.out _ hbc.out) (fun hHeld => ?_)
    clear hK K
    refine take_set (i := 15) (v := .bool true) rfl rfl (by kernel_rfl) (by kernel_rfl) (by kernel_rfl) (fun _ _ _ h => h) (Or.inl ⟨by kernel_rfl, fun w' hSw => ?_⟩) hHeld ?_
    · go_simp
    simp only [List.set_cons_succ, List.set_cons_zero]
    refine take_set (i := 16) (v := .bool true) rfl rfl (by kernel_rfl) (by kernel_rfl) (by kernel_rfl) (fun _ _ _ h => h) (Or.inl ⟨by kernel_rfl, fun w' hSw => ?_⟩) hHeld ?_
    · go_simp
    simp only [List.set_cons_succ, List.set_cons_zero]
    refine take_set (i := 17) (v := .bool true) rfl rfl (by kernel_rfl) (by kernel_rfl) (by kernel_rfl) (fun _ _ _ h => h) (Or.inl ⟨by kernel_rfl, fun w' hSw => ?_⟩) hHeld ?_
    · go_simp
    simp only [List.set_cons_succ, List.set_cons_zero]
    refine take_event (i := 18) w2.heap.size cb (.tmp 3) honeB.out.2 rfl (by kernel_rfl) (by kernel_rfl) (by kernel_rfl) (fun _ _ _ h => h) rfl rfl rfl hHeld (fun w h => h.2.1) ?_
    refine take_set (i := 21) (v := .pointer (some ⟨w2.heap.size, 0, none⟩)) rfl rfl (by kernel_rfl) (by kernel_rfl) (by kernel_rfl) (fun _ _ _ h => h) (Or.inl ⟨by kernel_rfl, fun w' hSw => ?_⟩) hHeld ?_
    · go_simp
    simp only [List.set_cons_succ, List.set_cons_zero]
    refine take_set (i := 22) (v := .int .i64 kd) rfl rfl (by kernel_rfl) (by kernel_rfl) (by kernel_rfl) (fun _ _ _ h => h) (Or.inl ⟨by kernel_rfl, fun w' hSw => ?_⟩) hHeld ?_
    · go_simp
    simp only [List.set_cons_succ, List.set_cons_zero]
    refine wpAnyH_ready (rs := [19]) (by kernel_rfl) (by simp) ?_
    refine AllReadyH.cons (o := _) rfl (fun K hK => ?_) AllReadyH.nil
    go_simp
    refine (bare_any (bareX e) cb _ (HB.out.below hbc.out) (evD_bare HD.out)).mono ?_
    rintro r v ⟨cs_19, rfl, hec, hbel⟩
    obtain ⟨b1, m1, n1_, b2, m2, n2_, b3, m3, n3_, b4, m4, n4_, b5, m5, n5_, hEI⟩ := hec.out
    have hcc := hEI.cells
    have hf19 : ∀ w', (Instr.field 38 (.agg cs_19.toArray) 0).run Try.prog w' = .ok (.int .i64 kd) w' := fun w' => by
      rw [hcc, bareX_kind, bareX_kind, hkd.out]
      kernel_rfl
    clear hec hEI hcc
    replace hbc := hide (hbc.out.trans (hbel.mono hbc.out.size))
    clear hbel
    refine hK.out _ _ (hcs.out _ hbc.out) (fun hHeld => ?_)
    clear hK K
    refine take_set (i := 20) (v := .int .i64 kd) rfl rfl (by kernel_rfl) (by kernel_rfl) (by kernel_rfl) (fun _ _ _ h => h) (Or.inl ⟨by kernel_rfl, fun w' hSw => ?_⟩) hHeld ?_
    · go_simp
    simp only [List.set_cons_succ, List.set_cons_zero]
    refine take_set (i := 23) (v := .bool true) rfl rfl (by kernel_rfl) (by kernel_rfl) (by kernel_rfl) (fun _ _ _ h => h) (Or.inl ⟨by kernel_rfl, fun w' hSw => ?_⟩) hHeld ?_
    · go_simp
    simp only [List.set_cons_succ, List.set_cons_zero]
    refine take_set (i := 24) (v := .bool true) rfl rfl (by kernel_rfl) (by kernel_rfl) (by kernel_rfl) (fun _ _ _ h => h) (Or.inl ⟨by kernel_rfl, fun w' hSw => ?_⟩) hHeld ?_
    · go_simp
    simp only [List.set_cons_succ, List.set_cons_zero]
    refine take_set (i := 25) (v := .bool true) rfl rfl (by kernel_rfl) (by kernel_rfl) (by kernel_rfl) (fun _ _ _ h => h) (Or.inl ⟨by kernel_rfl, fun w' hSw => ?_⟩) hHeld ?_
    · go_simp
    simp only [List.set_cons_succ, List.set_cons_zero]
    refine take_event (i := 26) w2.heap.size cb (.tmp 3) honeB.out.2 rfl (by kernel_rfl) (by kernel_rfl) (by kernel_rfl) (fun _ _ _ h => h) rfl rfl rfl hHeld (fun w h => h.2.1) ?_
    refine take_set (i := 29) (v := .pointer (some ⟨w2.heap.size, 1, none⟩)) rfl rfl (by kernel_rfl) (by kernel_rfl) (by kernel_rfl) (fun _ _ _ h => h) (Or.inl ⟨by kernel_rfl, fun w' hSw => ?_⟩) hHeld ?_
    · go_simp
    simp only [List.set_cons_succ, List.set_cons_zero]
    refine take_set (i := 30) (v := .int .i64 sl) rfl rfl (by kernel_rfl) (by kernel_rfl) (by kernel_rfl) (fun _ _ _ h => h) (Or.inl ⟨by kernel_rfl, fun w' hSw => ?_⟩) hHeld ?_
    · go_simp
    simp only [List.set_cons_succ, List.set_cons_zero]
    refine wpAnyH_ready (rs := [27]) (by kernel_rfl) (by simp) ?_
    refine AllReadyH.cons (o := _) rfl (fun K hK => ?_) AllReadyH.nil
    go_simp
    refine (bare_any (bareX e) cb _ (HB.out.below hbc.out) (evD_bare HD.out)).mono ?_
    rintro r v ⟨cs_27, rfl, hec, hbel⟩
    obtain ⟨b1, m1, n1_, b2, m2, n2_, b3, m3, n3_, b4, m4, n4_, b5, m5, n5_, hEI⟩ := hec.out
    have hcc := hEI.cells
    have hf27 : ∀ w', (Instr.field 38 (.agg cs_27.toArray) 1).run Try.prog w' = .ok (.int .i64 sl) w' := fun w' => by
      rw [hcc, bare2_slot, hsl.out]
      kernel_rfl
    clear hec hEI hcc
    replace hbc := hide (hbc.out.trans (hbel.mono hbc.out.size))
    clear hbel
    refine hK.out _ _ (hcs.out _ hbc.out) (fun hHeld => ?_)
    clear hK K
    refine take_set (i := 28) (v := .int .i64 sl) rfl rfl (by kernel_rfl) (by kernel_rfl) (by kernel_rfl) (fun _ _ _ h => h) (Or.inl ⟨by kernel_rfl, fun w' hSw => ?_⟩) hHeld ?_
    · go_simp
    simp only [List.set_cons_succ, List.set_cons_zero]
    refine take_set (i := 31) (v := .bool true) rfl rfl (by kernel_rfl) (by kernel_rfl) (by kernel_rfl) (fun _ _ _ h => h) (Or.inl ⟨by kernel_rfl, fun w' hSw => ?_⟩) hHeld ?_
    · go_simp
    simp only [List.set_cons_succ, List.set_cons_zero]
    refine take_set (i := 32) (v := .bool true) rfl rfl (by kernel_rfl) (by kernel_rfl) (by kernel_rfl) (fun _ _ _ h => h) (Or.inl ⟨by kernel_rfl, fun w' hSw => ?_⟩) hHeld ?_
    · go_simp
    simp only [List.set_cons_succ, List.set_cons_zero]
    refine take_set (i := 33) (v := .bool true) rfl rfl (by kernel_rfl) (by kernel_rfl) (by kernel_rfl) (fun _ _ _ h => h) (Or.inl ⟨by kernel_rfl, fun w' hSw => ?_⟩) hHeld ?_
    · go_simp
    simp only [List.set_cons_succ, List.set_cons_zero]
    refine take_set (i := 34) (v := .pointer (some ⟨w.heap.size, 0, none⟩)) rfl rfl (by kernel_rfl) (by kernel_rfl) (by kernel_rfl) (fun _ _ _ h => h) (Or.inl ⟨by kernel_rfl, fun w' hSw => ?_⟩) hHeld ?_
    · go_simp
    simp only [List.set_cons_succ, List.set_cons_zero]
    refine take_set (i := 35) (v := .int .i64 kd) rfl rfl (by kernel_rfl) (by kernel_rfl) (by kernel_rfl) (fun _ _ _ h => h) (Or.inl ⟨by kernel_rfl, fun w' hSw => ?_⟩) hHeld ?_
    · go_simp
    simp only [List.set_cons_succ, List.set_cons_zero]
    refine take_set (i := 36) (v := .bool true) rfl rfl (by kernel_rfl) (by kernel_rfl) (by kernel_rfl) (fun _ _ _ h => h) (Or.inl ⟨by kernel_rfl, fun w' hSw => ?_⟩) hHeld ?_
    · go_simp
    simp only [List.set_cons_succ, List.set_cons_zero]
    refine take_set (i := 37) (v := .bool true) rfl rfl (by kernel_rfl) (by kernel_rfl) (by kernel_rfl) (fun _ _ _ h => h) (Or.inl ⟨by kernel_rfl, fun w' hSw => ?_⟩) hHeld ?_
    · go_simp
    simp only [List.set_cons_succ, List.set_cons_zero]
    refine take_set (i := 38) (v := undef) rfl rfl (by kernel_rfl) (by kernel_rfl) (by kernel_rfl) (fun _ _ _ h => h) (Or.inr ⟨by kernel_rfl, rfl⟩) hHeld ?_
    simp only [List.set_cons_succ, List.set_cons_zero]
    refine take_set (i := 39) (v := undef) rfl rfl (by kernel_rfl) (by kernel_rfl) (by kernel_rfl) (fun _ _ _ h => h) (Or.inr ⟨by kernel_rfl, rfl⟩) hHeld ?_
    simp only [List.set_cons_succ, List.set_cons_zero]
    refine take_set (i := 40) (v := undef) rfl rfl (by kernel_rfl) (by kernel_rfl) (by kernel_rfl) (fun _ _ _ h => h) (Or.inr ⟨by kernel_rfl, rfl⟩) hHeld ?_
    simp only [List.set_cons_succ, List.set_cons_zero]
    refine take_set (i := 41) (v := .bool true) rfl rfl (by kernel_rfl) (by kernel_rfl) (by kernel_rfl) (fun _ _ _ h => h) (Or.inl ⟨by kernel_rfl, fun w' hSw => ?_⟩) hHeld ?_
    · go_simp
    simp only [List.set_cons_succ, List.set_cons_zero]
    refine take_set (i := 42) (v := .bool true) rfl rfl (by kernel_rfl) (by kernel_rfl) (by kernel_rfl) (fun _ _ _ h => h) (Or.inl ⟨by kernel_rfl, fun w' hSw => ?_⟩) hHeld ?_
    · go_simp
    simp only [List.set_cons_succ, List.set_cons_zero]
    refine take_set (i := 43) (v := .bool true) rfl rfl (by kernel_rfl) (by kernel_rfl) (by kernel_rfl) (fun _ _ _ h => h) (Or.inl ⟨by kernel_rfl, fun w' hSw => ?_⟩) hHeld ?_
    · go_simp
    simp only [List.set_cons_succ, List.set_cons_zero]
    refine wpAnyH_done (by kernel_rfl) ?_ _
    refine NoPanic.normal ?_
    go_wp2
    go_ret
    exact ⟨rfl, HN.out.trans (hbc.out.mono HN.out.size)⟩
  · obtain rfl : sl = 0 := hsl0.out.resolve_left hk0
    have k1 : (kd == 0) = false := by simp [hk0]
    have k2 : decide (kd = 0) = false := by simp [hk0]
    clear hk0 hsl0
    have hcs : Hid (∀ w', Below w5.heap.size w5 w' → w'.heap[w.heap.size]? = some (.cells cs0.toArray 38 (0, 0)) ∧ w'.heap[w2.heap.size]? = some (.cells cb.toArray 38 (0, 0)) ∧ w'.cell? ⟨w.heap.size, 0, none⟩ = some (.int .i64 kd) ∧ w'.cell? ⟨w2.heap.size, 0, none⟩ = some (.int .i64 kd) ∧ w'.cell? ⟨w2.heap.size, 1, none⟩ = some (.int .i64 0) ∧ (convert 40 9 (.slice ao2 n2 d2)).run Try.prog w' = .ok (.string s1) w' ∧ (convert 40 9 (.slice ao3 n3 d3)).run Try.prog w' = .ok (.string s1) w') := hide (fun w' h =>
      have A := OA.out.below h
      have B := OB.out.below h
      ⟨A.at_, B.at_, (A.cell 0).trans (by simpa using hc0.out), (B.cell 0).trans (by simpa using hb01.out.1), (B.cell 1).trans (by simpa using hb01.out.2), by rw [← hs1.out]; exact conv_row (HR2.out.below h), by rw [← hs1.out]; exact conv_row (HR3.out.below h)⟩)
    refine wp_region_noPanic ?_
    refine wp_region_held_drew (S := fun w' => w'.heap[w.heap.size]? = some (.cells cs0.toArray 38 (0, 0)) ∧ w'.heap[w2.heap.size]? = some (.cells cb.toArray 38 (0, 0)) ∧ w'.cell? ⟨w.heap.size, 0, none⟩ = some (.int .i64 kd) ∧ w'.cell? ⟨w2.heap.size, 0, none⟩ = some (.int .i64 kd) ∧ w'.cell? ⟨w2.heap.size, 1, none⟩ = some (.int .i64 0) ∧ (convert 40 9 (.slice ao2 n2 d2)).run Try.prog w' = .ok (.string s1) w' ∧ (convert 40 9 (.slice ao3 n3 d3)).run Try.prog w' = .ok (.string s1) w') (by kernel_rfl) (hcs.out _ hbc.out) (fun hHeld => ?_)
    refine take_set (i := 0) (v := .bool q) rfl rfl (by kernel_rfl) (by kernel_rfl) (by kernel_rfl) (fun _ _ _ h => h) (Or.inl ⟨by kernel_rfl, fun w' hSw => ?_⟩) hHeld ?_
    · go_simp
    simp only [List.set_cons_succ, List.set_cons_zero]
    refine take_set (i := 1) (v := .bool q) rfl rfl (by kernel_rfl) (by kernel_rfl) (by kernel_rfl) (fun _ _ _ h => h) (Or.inl ⟨by kernel_rfl, fun w' hSw => ?_⟩) hHeld ?_
    · go_simp
    simp only [List.set_cons_succ, List.set_cons_zero]
    refine take_set (i := 2) (v := .bool true) rfl rfl (by kernel_rfl) (by kernel_rfl) (by kernel_rfl) (fun _ _ _ h => h) (Or.inl ⟨by kernel_rfl, fun w' hSw => ?_⟩) hHeld ?_
    · go_simp
    simp only [List.set_cons_succ, List.set_cons_zero]
    refine take_set (i := 3) (v := .bool true) rfl rfl (by kernel_rfl) (by kernel_rfl) (by kernel_rfl) (fun _ _ _ h => h) (Or.inl ⟨by kernel_rfl, fun w' hSw => ?_⟩) hHeld ?_
    · go_simp
    simp only [List.set_cons_succ, List.set_cons_zero]
    refine take_set (i := 4) (v := .slice ao2 n2 d2) rfl rfl (by kernel_rfl) (by kernel_rfl) (by kernel_rfl) (fun _ _ _ h => h) (Or.inl ⟨by kernel_rfl, fun w' hSw => ?_⟩) hHeld ?_
    · go_simp
    simp only [List.set_cons_succ, List.set_cons_zero]
    refine take_set (i := 5) (v := .string s1) rfl rfl (by kernel_rfl) (by kernel_rfl) (by kernel_rfl) (fun _ _ _ h => h) (Or.inl ⟨by kernel_rfl, fun w' hSw => ?_⟩) hHeld ?_
    · go_simp
    simp only [List.set_cons_succ, List.set_cons_zero]
    refine take_set (i := 6) (v := .slice ao3 n3 d3) rfl rfl (by kernel_rfl) (by kernel_rfl) (by kernel_rfl) (fun _ _ _ h => h) (Or.inl ⟨by kernel_rfl, fun w' hSw => ?_⟩) hHeld ?_
    · go_simp
    simp only [List.set_cons_succ, List.set_cons_zero]
    refine take_set (i := 7) (v := .string s1) rfl rfl (by kernel_rfl) (by kernel_rfl) (by kernel_rfl) (fun _ _ _ h => h) (Or.inl ⟨by kernel_rfl, fun w' hSw => ?_⟩) hHeld ?_
    · go_simp
    simp only [List.set_cons_succ, List.set_cons_zero]
    refine take_set (i := 8) (v := .bool true) rfl rfl (by kernel_rfl) (by kernel_rfl) (by kernel_rfl) (fun _ _ _ h => h) (Or.inl ⟨by kernel_rfl, fun w' hSw => ?_⟩) hHeld ?_
    · go_simp
    simp only [List.set_cons_succ, List.set_cons_zero]
    refine take_set (i := 9) (v := .bool true) rfl rfl (by kernel_rfl) (by kernel_rfl) (by kernel_rfl) (fun _ _ _ h => h) (Or.inl ⟨by kernel_rfl, fun w' hSw => ?_⟩) hHeld ?_
    · go_simp
    simp only [List.set_cons_succ, List.set_cons_zero]
    refine take_set (i := 10) (v := .bool true) rfl rfl (by kernel_rfl) (by kernel_rfl) (by kernel_rfl) (fun _ _ _ h => h) (Or.inl ⟨by kernel_rfl, fun w' hSw => ?_⟩) hHeld ?_
    · go_simp
    simp only [List.set_cons_succ, List.set_cons_zero]
    refine take_event (i := 11) w.heap.size cs0 (.tmp 1) hone.out.2 rfl (by kernel_rfl) (by kernel_rfl) (by kernel_rfl) (fun _ _ _ h => h) rfl rfl rfl hHeld (fun w h => h.1) ?_
    refine take_event (i := 13) w2.heap.size cb (.tmp 3) honeB.out.2 rfl (by kernel_rfl) (by kernel_rfl) (by kernel_rfl) (fun _ _ _ h => h) rfl rfl rfl hHeld (fun w h => h.2.1) ?_
    refine wpAnyH_ready (rs := [12]) (by kernel_rfl) (by simp) ?_
    refine AllReadyH.cons (o := _) rfl (fun K hK => ?_) AllReadyH.nil
    go_simp
    refine (may_any e cs0 _ (HE5.out.below hbc.out)).mono ?_
    rintro r v ⟨rfl, hbel⟩
    rw [hq.out]
    replace hbc := hide (hbc.out.trans (hbel.mono hbc.out.size))
    clear hbel
    refine hK.out _ _ (hcs.out _ hbc.out) (fun hHeld => ?_)
    clear hK K
    refine wpAnyH_ready (rs := [14]) (by kernel_rfl) (by simp) ?_
    refine AllReadyH.cons (o := _) rfl (fun K hK => ?_) AllReadyH.nil
    go_simp
    refine (may_any (bareX e) cb _ (HB.out.below hbc.out)).mono ?_
    rintro r v ⟨rfl, hbel⟩
    rw [bareX_evB, hq.out]
    replace hbc := hide (hbc.out.trans (hbel.mono hbc.out.size))
    clear hbel
    refine hK.out _ _ (hcs.out _ hbc.out) (fun hHeld => ?_)
    clear hK K
    refine take_set (i := 15) (v := .bool true) rfl rfl (by kernel_rfl) (by kernel_rfl) (by kernel_rfl) (fun _ _ _ h => h) (Or.inl ⟨by kernel_rfl, fun w' hSw => ?_⟩) hHeld ?_
    · go_simp
    simp only [List.set_cons_succ, List.set_cons_zero]
    refine take_set (i := 16) (v := .bool true) rfl rfl (by kernel_rfl) (by kernel_rfl) (by kernel_rfl) (fun _ _ _ h => h) (Or.inl ⟨by kernel_rfl, fun w' hSw => ?_⟩) hHeld ?_
    · go_simp
    simp only [List.set_cons_succ, List.set_cons_zero]
    refine take_set (i := 17) (v := .bool true) rfl rfl (by kernel_rfl) (by kernel_rfl) (by kernel_rfl) (fun _ _ _ h => h) (Or.inl ⟨by kernel_rfl, fun w' hSw => ?_⟩) hHeld ?_
    · go_simp
    simp only [List.set_cons_succ, List.set_cons_zero]
    refine take_event (i := 18) w2.heap.size cb (.tmp 3) honeB.out.2 rfl (by kernel_rfl) (by kernel_rfl) (by kernel_rfl) (fun _ _ _ h => h) rfl rfl rfl hHeld (fun w h => h.2.1) ?_
    refine take_set (i := 21) (v := .pointer (some ⟨w2.heap.size, 0, none⟩)) rfl rfl (by kernel_rfl) (by kernel_rfl) (by kernel_rfl) (fun _ _ _ h => h) (Or.inl ⟨by kernel_rfl, fun w' hSw => ?_⟩) hHeld ?_
    · go_simp
    simp only [List.set_cons_succ, List.set_cons_zero]
    refine take_set (i := 22) (v := .int .i64 kd) rfl rfl (by kernel_rfl) (by kernel_rfl) (by kernel_rfl) (fun _ _ _ h => h) (Or.inl ⟨by kernel_rfl, fun w' hSw => ?_⟩) hHeld ?_
    · go_simp
    simp only [List.set_cons_succ, List.set_cons_zero]
    refine wpAnyH_ready (rs := [19]) (by kernel_rfl) (by simp) ?_
    refine AllReadyH.cons (o := _) rfl (fun K hK => ?_) AllReadyH.nil
    go_simp
    refine (bare_any (bareX e) cb _ (HB.out.below hbc.out) (evD_bare HD.out)).mono ?_
    rintro r v ⟨cs_19, rfl, hec, hbel⟩
    obtain ⟨b1, m1, n1_, b2, m2, n2_, b3, m3, n3_, b4, m4, n4_, b5, m5, n5_, hEI⟩ := hec.out
    have hcc := hEI.cells
    have hf19 : ∀ w', (Instr.field 38 (.agg cs_19.toArray) 0).run Try.prog w' = .ok (.int .i64 kd) w' := fun w' => by
      rw [hcc, bareX_kind, bareX_kind, hkd.out]
      kernel_rfl
    clear hec hEI hcc
    replace hbc := hide (hbc.out.trans (hbel.mono hbc.out.size))
    clear hbel
    refine hK.out _ _ (hcs.out _ hbc.out) (fun hHeld => ?_)
    clear hK K
    refine take_set (i := 20) (v := .int .i64 kd) rfl rfl (by kernel_rfl) (by kernel_rfl) (by kernel_rfl) (fun _ _ _ h => h) (Or.inl ⟨by kernel_rfl, fun w' hSw => ?_⟩) hHeld ?_
    · go_simp
    simp only [List.set_cons_succ, List.set_cons_zero]
    refine take_set (i := 23) (v := .bool true) rfl rfl (by kernel_rfl) (by kernel_rfl) (by kernel_rfl) (fun _ _ _ h => h) (Or.inl ⟨by kernel_rfl, fun w' hSw => ?_⟩) hHeld ?_
    · go_simp
    simp only [List.set_cons_succ, List.set_cons_zero]
    refine take_set (i := 24) (v := .bool true) rfl rfl (by kernel_rfl) (by kernel_rfl) (by kernel_rfl) (fun _ _ _ h => h) (Or.inl ⟨by kernel_rfl, fun w' hSw => ?_⟩) hHeld ?_
    · go_simp
    simp only [List.set_cons_succ, List.set_cons_zero]
    refine take_set (i := 25) (v := .bool true) rfl rfl (by kernel_rfl) (by kernel_rfl) (by kernel_rfl) (fun _ _ _ h => h) (Or.inl ⟨by kernel_rfl, fun w' hSw => ?_⟩) hHeld ?_
    · go_simp
    simp only [List.set_cons_succ, List.set_cons_zero]
    refine take_event (i := 26) w2.heap.size cb (.tmp 3) honeB.out.2 rfl (by kernel_rfl) (by kernel_rfl) (by kernel_rfl) (fun _ _ _ h => h) rfl rfl rfl hHeld (fun w h => h.2.1) ?_
    refine take_set (i := 29) (v := .pointer (some ⟨w2.heap.size, 1, none⟩)) rfl rfl (by kernel_rfl) (by kernel_rfl) (by kernel_rfl) (fun _ _ _ h => h) (Or.inl ⟨by kernel_rfl, fun w' hSw => ?_⟩) hHeld ?_
    · go_simp
    simp only [List.set_cons_succ, List.set_cons_zero]
    refine take_set (i := 30) (v := .int .i64 0) rfl rfl (by kernel_rfl) (by kernel_rfl) (by kernel_rfl) (fun _ _ _ h => h) (Or.inl ⟨by kernel_rfl, fun w' hSw => ?_⟩) hHeld ?_
    · go_simp
    simp only [List.set_cons_succ, List.set_cons_zero]
    refine wpAnyH_ready (rs := [27]) (by kernel_rfl) (by simp) ?_
    refine AllReadyH.cons (o := _) rfl (fun K hK => ?_) AllReadyH.nil
    go_simp
    refine (bare_any (bareX e) cb _ (HB.out.below hbc.out) (evD_bare HD.out)).mono ?_
    rintro r v ⟨cs_27, rfl, hec, hbel⟩
    obtain ⟨b1, m1, n1_, b2, m2, n2_, b3, m3, n3_, b4, m4, n4_, b5, m5, n5_, hEI⟩ := hec.out
    have hcc := hEI.cells
    have hf27 : ∀ w', (Instr.field 38 (.agg cs_27.toArray) 1).run Try.prog w' = .ok (.int .i64 0) w' := fun w' => by
      rw [hcc, bare2_slot, hsl.out]
      kernel_rfl
    clear hec hEI hcc
    replace hbc := hide (hbc.out.trans (hbel.mono hbc.out.size))
    clear hbel
    refine hK.out _ _ (hcs.out _ hbc.out) (fun hHeld => ?_)
    clear hK K
    refine take_set (i := 28) (v := .int .i64 0) rfl rfl (by kernel_rfl) (by kernel_rfl) (by kernel_rfl) (fun _ _ _ h => h) (Or.inl ⟨by kernel_rfl, fun w' hSw => ?_⟩) hHeld ?_
    · go_simp
    simp only [List.set_cons_succ, List.set_cons_zero]
    refine take_set (i := 31) (v := .bool true) rfl rfl (by kernel_rfl) (by kernel_rfl) (by kernel_rfl) (fun _ _ _ h => h) (Or.inl ⟨by kernel_rfl, fun w' hSw => ?_⟩) hHeld ?_
    · go_simp
    simp only [List.set_cons_succ, List.set_cons_zero]
    refine take_set (i := 32) (v := .bool true) rfl rfl (by kernel_rfl) (by kernel_rfl) (by kernel_rfl) (fun _ _ _ h => h) (Or.inl ⟨by kernel_rfl, fun w' hSw => ?_⟩) hHeld ?_
    · go_simp
    simp only [List.set_cons_succ, List.set_cons_zero]
    refine take_set (i := 33) (v := .bool true) rfl rfl (by kernel_rfl) (by kernel_rfl) (by kernel_rfl) (fun _ _ _ h => h) (Or.inl ⟨by kernel_rfl, fun w' hSw => ?_⟩) hHeld ?_
    · go_simp
    simp only [List.set_cons_succ, List.set_cons_zero]
    refine take_set (i := 34) (v := .pointer (some ⟨w.heap.size, 0, none⟩)) rfl rfl (by kernel_rfl) (by kernel_rfl) (by kernel_rfl) (fun _ _ _ h => h) (Or.inl ⟨by kernel_rfl, fun w' hSw => ?_⟩) hHeld ?_
    · go_simp
    simp only [List.set_cons_succ, List.set_cons_zero]
    refine take_set (i := 35) (v := .int .i64 kd) rfl rfl (by kernel_rfl) (by kernel_rfl) (by kernel_rfl) (fun _ _ _ h => h) (Or.inl ⟨by kernel_rfl, fun w' hSw => ?_⟩) hHeld ?_
    · go_simp
    simp only [List.set_cons_succ, List.set_cons_zero]
    refine take_set (i := 36) (v := .bool false) rfl rfl (by kernel_rfl) (by kernel_rfl) (by kernel_rfl) (fun _ _ _ h => h) (Or.inl ⟨by kernel_rfl, fun w' hSw => ?_⟩) hHeld ?_
    · go_simp
    simp only [List.set_cons_succ, List.set_cons_zero]
    refine take_set (i := 37) (v := .bool false) rfl rfl (by kernel_rfl) (by kernel_rfl) (by kernel_rfl) (fun _ _ _ h => h) (Or.inl ⟨by kernel_rfl, fun w' hSw => ?_⟩) hHeld ?_
    · go_simp
    simp only [List.set_cons_succ, List.set_cons_zero]
    refine take_set (i := 38) (v := .pointer (some ⟨w2.heap.size, 1, none⟩)) rfl rfl (by kernel_rfl) (by kernel_rfl) (by kernel_rfl) (fun _ _ _ h => h) (Or.inl ⟨by kernel_rfl, fun w' hSw => ?_⟩) hHeld ?_
    · go_simp
    simp only [List.set_cons_succ, List.set_cons_zero]
    refine take_set (i := 39) (v := .int .i64 0) rfl rfl (by kernel_rfl) (by kernel_rfl) (by kernel_rfl) (fun _ _ _ h => h) (Or.inl ⟨by kernel_rfl, fun w' hSw => ?_⟩) hHeld ?_
    · go_simp
    simp only [List.set_cons_succ, List.set_cons_zero]
    refine take_set (i := 40) (v := .bool true) rfl rfl (by kernel_rfl) (by kernel_rfl) (by kernel_rfl) (fun _ _ _ h => h) (Or.inl ⟨by kernel_rfl, fun w' hSw => ?_⟩) hHeld ?_
    · go_simp
    simp only [List.set_cons_succ, List.set_cons_zero]
    refine take_set (i := 41) (v := .bool true) rfl rfl (by kernel_rfl) (by kernel_rfl) (by kernel_rfl) (fun _ _ _ h => h) (Or.inl ⟨by kernel_rfl, fun w' hSw => ?_⟩) hHeld ?_
    · go_simp
    simp only [List.set_cons_succ, List.set_cons_zero]
    refine take_set (i := 42) (v := .bool true) rfl rfl (by kernel_rfl) (by kernel_rfl) (by kernel_rfl) (fun _ _ _ h => h) (Or.inl ⟨by kernel_rfl, fun w' hSw => ?_⟩) hHeld ?_
    · go_simp
    simp only [List.set_cons_succ, List.set_cons_zero]
    refine take_set (i := 43) (v := .bool true) rfl rfl (by kernel_rfl) (by kernel_rfl) (by kernel_rfl) (fun _ _ _ h => h) (Or.inl ⟨by kernel_rfl, fun w' hSw => ?_⟩) hHeld ?_
    · go_simp
    simp only [List.set_cons_succ, List.set_cons_zero]
    refine wpAnyH_done (by kernel_rfl) ?_ _
    refine NoPanic.normal ?_
    go_wp2
    go_ret
    exact ⟨rfl, HN.out.trans (hbc.out.mono HN.out.size)⟩

set_option maxRecDepth 100000 in
theorem lifted (os : Os) (started : os.Started) (H : Type) (enc : TypeId × Value → H) :
    ReturnsInHanded {} Try.checked os 4 .any (Rows.wireBareSpec.pre6 enc Try.prog Try.f4 Rows.wireBareRow.domain false) (Rows.wireBareSpec.post enc Try.prog Try.f4 false true false false) := by
  refine returnsInHanded_of_change_sized (C := Try.checked) own started (by kernel_rfl) Try.func4
    (ChangeSpec.witness6 (enc := enc) (C := Try.checked) false ⟨#[], #[.agg #[.int .i64 0, .int .i64 0, .int .u64 0, .int .u64 0, .int .i64 0, .slice none 0 0, .slice none 0 0, .int .i64 0, .int .u64 0, .int .i64 0, .int .u64 0, .int .i64 0, .int .u64 0, .slice none 0 0, .int .i64 0, .int .u64 0, .int .i64 0, .int .u64 0, .int .i64 0, .int .u64 0, .slice none 0 0, .int .i64 0, .int .u64 0, .int .i64 0, .int .u64 0, .int .i64 0, .int .u64 0, .slice none 0 0]], []⟩ 8 (by kernel_rfl) (by kernel_rfl) (by kernel_rfl) (by kernel_rfl)) ?_
  intro W base args ds gs before hval0 hW hcnd hsz0 _
  have hval : ∀ (j : Nat) t v, Try.f4.params[j]? = some t → args[j]? = some v → Value.okWide Try.prog W .any base t v := hval0
  have hsz : (DataW.weightsEach Try.prog (Try.f4.params.toList ++ Rows.wireBareSpec.plain.varTypes Try.prog) (ds ++ gs)).all (· ≤ reachBytes) = true := hsz0
  have hW' := hW
  obtain ⟨p, q, hA0, hV, rfl, hfz, hnd⟩ := hW
  have hA : DataW.TrodAll enc Try.prog W 0 (fun _ => true) true Try.f4.params.toList args.toList ds p := hA0
  rw [Try.params4] at hA hval hsz
  obtain ⟨v0, vs0, d0, ds0, p0, q0, hargs, rfl, rfl, h0, r0⟩ := trodAll_cons hA
  obtain ⟨rfl, rfl, rfl⟩ := trodAll_nil r0
  obtain rfl : args = #[v0] := by cases args; simp_all
  obtain ⟨rfl, rfl⟩ := trodVars_none hV
  obtain ⟨⟨cs0⟩, rfl, sz0⟩ := okWide_struct Try.underlying38 (hval 0 38 v0 rfl rfl)
  clear sz0
  have k0 := h0
  have lt0 : ∀ x ∈ p0, x.block < W.heap.size := by obtain ⟨m, hm⟩ := k0; exact DataW.trod_lt m _ _ _ hm
  have wt0 : ∀ n ∈ d0.weights Try.prog 38, n ≤ reachBytes := fun n hn => by
    have := List.all_eq_true.1 hsz n (DataW.weights_mem_each (j := 0) (t := 38) (d := d0) rfl rfl n hn)
    simpa using this
  obtain ⟨fuel0, hf0⟩ := h0
  simp only [Value.cells] at hf0
  obtain ⟨e0, w0, r0S⟩ := (Sh.readS reachBytes _).1 _ _ _ _ has38 hf0 wt0
  clear hA0 hval0
  refine (walk cs0 e0 W w0 r0S).mono fun e W' ⟨he, bel⟩ => ?_
  subst he
  exact ⟨_, rfl, _, _, _, [], _, [], hW', trodAll_mk1 (shut_bool Try.underlying4 _), (trodAll_cons_mk (Below.trod laidOut (by kernel_rfl) (of_decide_eq_true (by kernel_rfl)) k0 bel lt0) trodAll_mk0), rfl, bel.frame _, fun h => by cases h⟩

theorem over : Rows.wireBareRow.holds Try.pinned (OpenSpec.ofChange Rows.wireBareSpec) :=
  OpenClaim.holds_of_wide 4 Try.f4 rfl rfl rfl rfl rfl rfl rfl ⟨rfl, rfl, rfl, rfl, rfl⟩ rfl rfl rfl rfl rfl (by kernel_rfl) Try.func4 (by kernel_rfl)
    (of_decide_eq_true (by kernel_rfl)) (by unfold Func.isWrapper; first | (rw [if_pos (by decide +kernel)]; kernel_rfl) | (rw [if_neg (by decide +kernel)]; exact ⟨rfl, rfl⟩))
    (fun os started H enc _ => lifted os started H enc)

theorem proved : Rows.WireBareSaid := over
end Go.Proofs.Ytdigpjfgjlhhjaa.wireBare

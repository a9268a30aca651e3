/- Contract of wire's reader: an event is read. -/
import Derived.Test.YtdigpjfgjlhhjaaWRdB

namespace Go.Proofs.Ytdigpjfgjlhhjaa

open Go.ChangeShapes Go.WideShapes Go.ChangeAt Go.RowKit

set_option linter.unusedVariables false

def vtZ : Vt := ⟨0, 0, 0, 0, 0, 0, []⟩
def bkZ : Bk := ⟨0, 0, 0, [], []⟩
def pfZ : Pf := ⟨vtZ, vtZ⟩
abbrev vCs : List Value := [.int .i64 0, .int .u64 0, .int .i64 0, .int .u64 0, .int .i64 0, .int .u64 0, .slice none 0 0]
abbrev bCs : List Value := [.int .u64 0, .int .u64 0, .int .i64 0, .slice none 0 0, .slice none 0 0]
abbrev pCs : List Value := vCs ++ vCs
theorem vtZC (u : World) : VoteC u vCs vtZ := vote0 u
theorem pfZC (u : World) : ProofC u pCs pfZ := ⟨_, _, rfl, vote0 u, vote0 u⟩
theorem bkZC (u : World) : BlockC u bCs bkZ := ⟨by simp [bkZ, IsI64, IsU64], none, 0, 0, none, 0, 0, rfl, rows0 _ _ _, rows0 _ _ _⟩
/-- an event is read -/
def rEvent (bs : List Int) (s : St) : Ev × St :=
  let x := rSmall bs 3 s
  if x.1 = 0 then (⟨0, (rSmall bs 1099511627776 x.2).1, bkZ, vtZ, pfZ⟩, (rSmall bs 1099511627776 x.2).2)
  else if x.1 = 1 then (⟨1, 0, (rBlock bs x.2).1, vtZ, pfZ⟩, (rBlock bs x.2).2)
  else if x.1 = 2 then (⟨2, 0, bkZ, (rVote bs x.2).1, pfZ⟩, (rVote bs x.2).2)
  else (⟨3, 0, bkZ, vtZ, (rProof bs x.2).1⟩, (rProof bs x.2).2)
theorem wrote_at (xs ys zs cs : List Value) (o : Nat) (ho : xs.length = o) (h : cs.length = ys.length) : wrote (xs ++ (ys ++ zs)).toArray o cs = (xs ++ (cs ++ zs)).toArray := by subst ho; exact wrote_mid xs ys zs cs h
theorem oneV : ∀ v ∈ vCs, v.oneCell' = true := by simp [Value.oneCell']

set_option maxHeartbeats 8000000 in
theorem rdEvent_any (r : Nat) (ab : Option Addr) (n c : Nat) (bs : List Int) (s : St) (w : World) (h : Rd r w ab n c bs s) :
    Calls Try.prog 15 #[.pointer (some ⟨r, 0, none⟩)] w fun e w' => ∃ cs, e = .returned (.agg cs.toArray) ∧ EventC (filt tyA w.heap.size w') cs (rEvent bs s).1 ∧ Rd r w' ab n c bs (rEvent bs s).2 ∧ Apart r w w' := by
  obtain ⟨⟨kd, s1⟩, e1⟩ : ∃ x, Hid (rSmall bs 3 s = x) := ⟨_, rfl⟩
  have hx1 := rSmall_b h.b8 (m := 3) (by omega) s
  rw [e1.out] at hx1
  dsimp only at hx1
  have HV0 : Hid (rEvent bs s = if kd = 0 then (⟨0, (rSmall bs 1099511627776 s1).1, bkZ, vtZ, pfZ⟩, (rSmall bs 1099511627776 s1).2)
    else if kd = 1 then (⟨1, 0, (rBlock bs s1).1, vtZ, pfZ⟩, (rBlock bs s1).2)
    else if kd = 2 then (⟨2, 0, bkZ, (rVote bs s1).1, pfZ⟩, (rVote bs s1).2)
    else (⟨3, 0, bkZ, vtZ, (rProof bs s1).1⟩, (rProof bs s1).2)) := show _ = _ by
      have h1 : rSmall bs 3 s = (kd, s1) := e1.out
      unfold rEvent
      rw [h1]
  have H := hide h
  have hrlt := h.lt
  have hrne : w.heap.size ≠ r := by omega
  have BT : Hid (IsI64 (rSmall bs 1099511627776 s1).1) := rSmall_i h.b8 (by omega) _
  clear h
  go_enter Try.func15, Try.ntmps15
  go_wp2_with fail
  refine (rdSmall_any r ab n c bs s 3 _ (H.out.alloc _) (by omega)).mono ?_
  rintro e w1 ⟨rfl, hr1, hA1⟩
  rw [e1.out] at hr1 ⊢
  dsimp only at hr1 ⊢
  have hx2 := (hA1.block w.heap.size (by simp) hrne).trans (heap_alloc_new _ _)
  have hA1' := ((Apart.refl r w).alloc _).trans hA1
  have hsz1 := hA1.size
  simp at hsz1
  obtain ⟨h3, hh3⟩ : ∃ x, Hid (w1.heap.size = x) := ⟨_, rfl⟩
  obtain ⟨u0, hu0⟩ : ∃ x, Hid (w1.alloc (.cells (.int .i64 kd :: .int .i64 0 :: (bCs ++ (vCs ++ pCs))).toArray 38) = x) := ⟨_, rfl⟩
  have ST : Hid (∀ Z : Array Value, Z.size = 28 → (Instr.storeAt 38 (.pointer (some ⟨h3, 0, none⟩)) (.agg (.int .i64 kd :: .int .i64 0 :: (bCs ++ (vCs ++ pCs))).toArray)).run Try.prog (w1.alloc (.cells Z 38)) = .ok () u0) := fun Z hZ => by
    rw [← hu0.out]
    exact store_new infoEv rfl hZ (by simp [Value.oneCell']) hh3.out.symm
  have hl3 : w.heap.size < h3 := by rw [← hh3.out]; omega
  have hr3 : r < h3 := by omega
  have hb0 : Below w1.heap.size w1 u0 := by rw [← hu0.out]; exact below_alloc _ _
  have X3 : Hid (u0.heap[h3]? = some (.cells (.int .i64 kd :: .int .i64 0 :: (bCs ++ (vCs ++ pCs))).toArray 38 (0, 0))) := show _ = _ by rw [← hu0.out, ← hh3.out]; exact heap_alloc_new _ _
  have X2 := hide ((hb0.block w.heap.size (by omega)).trans hx2)
  have R0 := hide (hr1.below hb0)
  have A0 := hide (hA1'.trans (.of hb0))
  have hs0 : h3 + 1 ≤ u0.heap.size := by rw [← hu0.out, ← hh3.out]; simp
  have g0 : u0.cell? ⟨h3, 0, none⟩ = some (.int .i64 kd) := cell_of_row u0 h3 0 _ _ _ X3.out
  clear hr1 hA1 hA1' hx2 hb0 hsz1 hu0
  go_upto_region 2 with (refine wpList_store_at 38 (.tmp 3) (.tmp 6) rfl rfl (.pointer (some ⟨h3, 0, none⟩)) (.agg _) (by rw [← hh3.out]; rfl) rfl _ (ST.out _ rfl) ?_)
  rw [hh3.out]
  clear ST
  by_cases k0 : kd = 0
  · subst k0
    have HV : Hid (rEvent bs s = (⟨0, (rSmall bs 1099511627776 s1).1, bkZ, vtZ, pfZ⟩, (rSmall bs 1099511627776 s1).2)) := HV0.out
    clear HV0
    go_wp2_with fail
    refine (rdSmall_any r ab n c bs s1 1099511627776 _ R0.out (by omega)).mono ?_
    rintro e w2 ⟨rfl, hr2, hA2⟩
    obtain ⟨⟨y, s2⟩, hy⟩ : ∃ x, Hid (rSmall bs 1099511627776 s1 = x) := ⟨_, rfl⟩
    rw [hy.out] at hr2 HV BT ⊢
    dsimp only at hr2 HV BT ⊢
    have hx3 := (hA2.block h3 (by omega) (by omega)).trans X3.out
    have hx2 := (hA2.block w.heap.size (by omega) hrne).trans X2.out
    have hs2 := hA2.size
    have c1 : w2.cell? ⟨h3, 1, none⟩ = some (.int .i64 0) := cell_of_row w2 h3 1 _ _ _ hx3
    have f1 : w2.frozen? ⟨h3, 1, none⟩ = false := by unfold World.frozen?; rw [hx3]; simp
    obtain ⟨w3, hw3⟩ : ∃ x, Hid (w2.setCell ⟨h3, 1, none⟩ (.int .i64 y) = x) := ⟨_, rfl⟩
    have hA3 : Apart h3 w2 w3 := by rw [← hw3.out]; exact (Apart.refl _ _).set _ _
    have hx3' : w3.heap[h3]? = some (.cells (.int .i64 0 :: .int .i64 y :: (bCs ++ (vCs ++ pCs))).toArray 38 (0, 0)) := by rw [← hw3.out]; exact set_obj hx3 1 _
    have EC : ∀ u, EventC u (.int .i64 0 :: .int .i64 y :: (bCs ++ (vCs ++ pCs))) ⟨0, y, bkZ, vtZ, pfZ⟩ := fun u => ⟨⟨by simp [IsI64], BT.out⟩, _, _, _, rfl, bkZC u, vtZC u, pfZC u⟩
    have ECx := EC (filt tyA (h3 + 1) w3)
    go_upto_region 11 with fail
    rw [hw3.out]
    have hb3 : Below w.heap.size w2 w3 := hA3.old _ (by omega) (by omega)
    have hx2' := (hA3.block w.heap.size (by omega) (by omega)).trans hx2
    have hl28 := ECx.one.2
    have LD := hide (load_obj Try.underlying38 infoEv (by rw [List.size_toArray]; exact hl28) hx3')
    obtain ⟨w4, hrun, hx4, hA4⟩ := store_obj (P := Try.prog) infoEv hl28 (by rfl) ECx.one.1 hx2'
    have RUN := hide hrun
    have X4 := hide hx4
    have hb4 : Below w.heap.size w3 w4 := hA4.old _ (by have := hA3.size; omega) (Nat.le_refl _)
    have R4 := hide ((hr2.keep H.out hb3).keep H.out hb4)
    have A4 := hide (((A0.out.trans hA2).keep hb3).keep hb4)
    have EC4 := hide ((ECx.ext (filt_apart hA4 (by omega))).ext (filt_mono (q := tyA) (B := w.heap.size) w4 (by omega) (fun t h => h)))
    have HL := hide hl28
    clear hrun hx4 hA4 hA3 hA2 hr2 hx3 hx2 hx2' hx3' hb3 hb4 ECx hl28
    go_wp2_with (first
      | (refine wpList_load_at 38 (.tmp 3) rfl rfl (.pointer (some ⟨h3, 0, none⟩)) rfl (.agg _) LD.out ?_)
      | (refine wpList_store_at 38 (.tmp 2) (.tmp 29) rfl rfl (.pointer (some ⟨w.heap.size, 0, none⟩)) (.agg _) rfl rfl _ RUN.out ?_))
    refine ret_struct rfl rfl X4.out Try.underlying38 (by rw [HL.out]; exact infoEv) rfl ⟨_, rfl, ?_, ?_, A4.out⟩
    · rw [HV.out]
      exact EC4.out
    · rw [HV.out]
      exact R4.out
  by_cases k1 : kd = 1
  · subst k1
    have HV : Hid (rEvent bs s = (⟨1, 0, (rBlock bs s1).1, vtZ, pfZ⟩, (rBlock bs s1).2)) := HV0.out
    clear HV0
    go_wp2_with fail
    refine (rdBlock_any r ab n c bs s1 _ R0.out).mono ?_
    rintro e w2 ⟨cs2, rfl, hv2, hr2, hA2⟩
    obtain ⟨⟨y, s2⟩, hy⟩ : ∃ x, Hid (rBlock bs s1 = x) := ⟨_, rfl⟩
    rw [hy.out] at hr2 HV hv2
    dsimp only at hr2 HV hv2
    have hx3 := (hA2.block h3 (by omega) (by omega)).trans X3.out
    have hx2 := (hA2.block w.heap.size (by omega) hrne).trans X2.out
    have hs2 := hA2.size
    obtain ⟨w3, hrun3, hx3', hA3⟩ := store_part (P := Try.prog) (o := 2) (cs := cs2) infoBk hv2.one.2 (by simp) hv2.one.1 hx3
    rw [show (.int .i64 1 :: .int .i64 0 :: (bCs ++ (vCs ++ pCs)) : List Value) = [.int .i64 1, .int .i64 0] ++ (bCs ++ (vCs ++ pCs)) from rfl, wrote_at [.int .i64 1, .int .i64 0] bCs (vCs ++ pCs) cs2 2 rfl (by rw [hv2.one.2]; rfl)] at hx3'
    have RUN3 := hide hrun3
    have ECx : EventC (filt tyA (h3 + 1) w3) (.int .i64 1 :: .int .i64 0 :: (cs2 ++ (vCs ++ pCs))) ⟨1, 0, y, vtZ, pfZ⟩ := ⟨⟨by simp [IsI64], by simp [IsI64]⟩, _, _, _, rfl, (hv2.ext (filt_mono (q := tyA) (B := h3 + 1) w2 hs0 (fun t h => h))).ext (filt_apart hA3 (by omega)), vtZC _, pfZC _⟩
    clear hrun3 hv2
    go_upto_region 11 with (refine wpList_store_at 29 (.tmp 18) (.tmp 17) rfl rfl (.pointer (some ⟨h3, 2, none⟩)) (.agg _) rfl rfl _ RUN3.out ?_)
    have hb3 : Below w.heap.size w2 w3 := hA3.old _ (by omega) (by omega)
    have hx2' := (hA3.block w.heap.size (by omega) (by omega)).trans hx2
    have hl28 := ECx.one.2
    have LD := hide (load_obj Try.underlying38 infoEv (by rw [List.size_toArray]; exact hl28) hx3')
    obtain ⟨w4, hrun, hx4, hA4⟩ := store_obj (P := Try.prog) infoEv hl28 (by rfl) ECx.one.1 hx2'
    have RUN := hide hrun
    have X4 := hide hx4
    have hb4 : Below w.heap.size w3 w4 := hA4.old _ (by have := hA3.size; omega) (Nat.le_refl _)
    have R4 := hide ((hr2.keep H.out hb3).keep H.out hb4)
    have A4 := hide (((A0.out.trans hA2).keep hb3).keep hb4)
    have EC4 := hide ((ECx.ext (filt_apart hA4 (by omega))).ext (filt_mono (q := tyA) (B := w.heap.size) w4 (by omega) (fun t h => h)))
    have HL := hide hl28
    clear hrun hx4 hA4 hA3 hA2 hr2 hx3 hx2 hx2' hx3' hb3 hb4 ECx hl28
    go_wp2_with (first
      | (refine wpList_load_at 38 (.tmp 3) rfl rfl (.pointer (some ⟨h3, 0, none⟩)) rfl (.agg _) LD.out ?_)
      | (refine wpList_store_at 38 (.tmp 2) (.tmp 29) rfl rfl (.pointer (some ⟨w.heap.size, 0, none⟩)) (.agg _) rfl rfl _ RUN.out ?_))
    refine ret_struct rfl rfl X4.out Try.underlying38 (by rw [HL.out]; exact infoEv) rfl ⟨_, rfl, ?_, ?_, A4.out⟩
    · rw [HV.out]
      exact EC4.out
    · rw [HV.out]
      exact R4.out
  by_cases k2 : kd = 2
  · subst k2
    have HV : Hid (rEvent bs s = (⟨2, 0, bkZ, (rVote bs s1).1, pfZ⟩, (rVote bs s1).2)) := HV0.out
    clear HV0
    go_wp2_with fail
    refine (rdVote_any r ab n c bs s1 _ R0.out).mono ?_
    rintro e w2 ⟨cs2, rfl, hv2, hr2, hA2⟩
    obtain ⟨⟨y, s2⟩, hy⟩ : ∃ x, Hid (rVote bs s1 = x) := ⟨_, rfl⟩
    rw [hy.out] at hr2 HV hv2
    dsimp only at hr2 HV hv2
    have hx3 := (hA2.block h3 (by omega) (by omega)).trans X3.out
    have hx2 := (hA2.block w.heap.size (by omega) hrne).trans X2.out
    have hs2 := hA2.size
    obtain ⟨w3, hrun3, hx3', hA3⟩ := store_part (P := Try.prog) (o := 7) (cs := cs2) infoVt hv2.one.2 (by simp) hv2.one.1 hx3
    rw [show (.int .i64 2 :: .int .i64 0 :: (bCs ++ (vCs ++ pCs)) : List Value) = (.int .i64 2 :: .int .i64 0 :: bCs) ++ (vCs ++ pCs) from rfl, wrote_at (.int .i64 2 :: .int .i64 0 :: bCs) vCs pCs cs2 7 rfl (by rw [hv2.one.2]; rfl)] at hx3'
    have RUN3 := hide hrun3
    have ECx : EventC (filt tyA (h3 + 1) w3) (.int .i64 2 :: .int .i64 0 :: (bCs ++ (cs2 ++ pCs))) ⟨2, 0, bkZ, y, pfZ⟩ := ⟨⟨by simp [IsI64], by simp [IsI64]⟩, _, _, _, rfl, bkZC _, (hv2.ext (filt_mono (q := tyA) (B := h3 + 1) w2 hs0 (fun t h => by simp only [tyI, tyA] at h ⊢; rw [h]; rfl))).ext (filt_apart hA3 (by omega)), pfZC _⟩
    clear hrun3 hv2
    go_upto_region 11 with (refine wpList_store_at 34 (.tmp 23) (.tmp 22) rfl rfl (.pointer (some ⟨h3, 7, none⟩)) (.agg _) rfl rfl _ RUN3.out ?_)
    have hb3 : Below w.heap.size w2 w3 := hA3.old _ (by omega) (by omega)
    have hx2' := (hA3.block w.heap.size (by omega) (by omega)).trans hx2
    have hl28 := ECx.one.2
    have LD := hide (load_obj Try.underlying38 infoEv (by rw [List.size_toArray]; exact hl28) hx3')
    obtain ⟨w4, hrun, hx4, hA4⟩ := store_obj (P := Try.prog) infoEv hl28 (by rfl) ECx.one.1 hx2'
    have RUN := hide hrun
    have X4 := hide hx4
    have hb4 : Below w.heap.size w3 w4 := hA4.old _ (by have := hA3.size; omega) (Nat.le_refl _)
    have R4 := hide ((hr2.keep H.out hb3).keep H.out hb4)
    have A4 := hide (((A0.out.trans hA2).keep hb3).keep hb4)
    have EC4 := hide ((ECx.ext (filt_apart hA4 (by omega))).ext (filt_mono (q := tyA) (B := w.heap.size) w4 (by omega) (fun t h => h)))
    have HL := hide hl28
    clear hrun hx4 hA4 hA3 hA2 hr2 hx3 hx2 hx2' hx3' hb3 hb4 ECx hl28
    go_wp2_with (first
      | (refine wpList_load_at 38 (.tmp 3) rfl rfl (.pointer (some ⟨h3, 0, none⟩)) rfl (.agg _) LD.out ?_)
      | (refine wpList_store_at 38 (.tmp 2) (.tmp 29) rfl rfl (.pointer (some ⟨w.heap.size, 0, none⟩)) (.agg _) rfl rfl _ RUN.out ?_))
    refine ret_struct rfl rfl X4.out Try.underlying38 (by rw [HL.out]; exact infoEv) rfl ⟨_, rfl, ?_, ?_, A4.out⟩
    · rw [HV.out]
      exact EC4.out
    · rw [HV.out]
      exact R4.out
  have k3 : kd = 3 := by omega
  subst k3
  have HV : Hid (rEvent bs s = (⟨3, 0, bkZ, vtZ, (rProof bs s1).1⟩, (rProof bs s1).2)) := HV0.out
  clear HV0
  go_wp2_with fail
  refine (rdProof_any r ab n c bs s1 _ R0.out).mono ?_
  rintro e w2 ⟨cs2, rfl, hv2, hr2, hA2⟩
  obtain ⟨⟨y, s2⟩, hy⟩ : ∃ x, Hid (rProof bs s1 = x) := ⟨_, rfl⟩
  rw [hy.out] at hr2 HV hv2
  dsimp only at hr2 HV hv2
  have hx3 := (hA2.block h3 (by omega) (by omega)).trans X3.out
  have hx2 := (hA2.block w.heap.size (by omega) hrne).trans X2.out
  have hs2 := hA2.size
  obtain ⟨w3, hrun3, hx3', hA3⟩ := store_part (P := Try.prog) (o := 14) (cs := cs2) infoPf hv2.one.2 (by simp) hv2.one.1 hx3
  rw [show (.int .i64 3 :: .int .i64 0 :: (bCs ++ (vCs ++ pCs)) : List Value) = (.int .i64 3 :: .int .i64 0 :: (bCs ++ vCs)) ++ (pCs ++ []) from rfl, wrote_at (.int .i64 3 :: .int .i64 0 :: (bCs ++ vCs)) pCs [] cs2 14 rfl (by rw [hv2.one.2]; rfl), List.append_nil] at hx3'
  have RUN3 := hide hrun3
  have ECx : EventC (filt tyA (h3 + 1) w3) ((.int .i64 3 :: .int .i64 0 :: (bCs ++ vCs)) ++ cs2) ⟨3, 0, bkZ, vtZ, y⟩ := ⟨⟨by simp [IsI64], by simp [IsI64]⟩, _, _, _, rfl, bkZC _, vtZC _, (hv2.ext (filt_mono (q := tyA) (B := h3 + 1) w2 hs0 (fun t h => by simp only [tyI, tyA] at h ⊢; rw [h]; rfl))).ext (filt_apart hA3 (by omega))⟩
  clear hrun3 hv2
  go_upto_region 11 with (refine wpList_store_at 36 (.tmp 28) (.tmp 27) rfl rfl (.pointer (some ⟨h3, 14, none⟩)) (.agg _) rfl rfl _ RUN3.out ?_)
  have hb3 : Below w.heap.size w2 w3 := hA3.old _ (by omega) (by omega)
  have hx2' := (hA3.block w.heap.size (by omega) (by omega)).trans hx2
  have hl28 := ECx.one.2
  have LD := hide (load_obj Try.underlying38 infoEv (by rw [List.size_toArray]; exact hl28) hx3')
  obtain ⟨w4, hrun, hx4, hA4⟩ := store_obj (P := Try.prog) infoEv hl28 (by rfl) ECx.one.1 hx2'
  have RUN := hide hrun
  have X4 := hide hx4
  have hb4 : Below w.heap.size w3 w4 := hA4.old _ (by have := hA3.size; omega) (Nat.le_refl _)
  have R4 := hide ((hr2.keep H.out hb3).keep H.out hb4)
  have A4 := hide (((A0.out.trans hA2).keep hb3).keep hb4)
  have EC4 := hide ((ECx.ext (filt_apart hA4 (by omega))).ext (filt_mono (q := tyA) (B := w.heap.size) w4 (by omega) (fun t h => h)))
  have HL := hide hl28
  clear hrun hx4 hA4 hA3 hA2 hr2 hx3 hx2 hx2' hx3' hb3 hb4 ECx hl28
  go_wp2_with (first
    | (refine wpList_load_at 38 (.tmp 3) rfl rfl (.pointer (some ⟨h3, 0, none⟩)) rfl (.agg _) LD.out ?_)
    | (refine wpList_store_at 38 (.tmp 2) (.tmp 29) rfl rfl (.pointer (some ⟨w.heap.size, 0, none⟩)) (.agg _) rfl rfl _ RUN.out ?_))
  refine ret_struct rfl rfl X4.out Try.underlying38 (by rw [HL.out]; exact infoEv) rfl ⟨_, rfl, ?_, ?_, A4.out⟩
  · rw [HV.out]
    exact EC4.out
  · rw [HV.out]
    exact R4.out
end Go.Proofs.Ytdigpjfgjlhhjaa

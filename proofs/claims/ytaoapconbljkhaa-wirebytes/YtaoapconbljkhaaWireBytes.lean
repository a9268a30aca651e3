/-
  events' bytes are what the document says; where one may not be there are none: of up to 300 (WireBytes is true of every input).
-/
import Derived.Test.YtaoapconbljkhaaRows
import Derived.WalkKit
import Derived.Below
import Derived.ProofKit
import Derived.OpenShut
import Derived.ShutString
import Derived.ChangeOld
import Derived.Test.YtaoapconbljkhaaShapes
import Derived.Test.YtaoapconbljkhaaWMore
namespace Go.Proofs.Ytaoapconbljkhaa.wireBytes
open Go.ChangeShapes Go.WideShapes Go.ChangeAt Go.RowKit
set_option linter.unusedVariables false

theorem own : ownKnob Try.prog.godebug = none := by kernel_rfl
theorem laidOut : laidOutB Try.prog = true := by kernel_rfl
theorem cells3 : Try.prog.cellsOf 3 = 1 := by kernel_rfl
theorem cells4 : Try.prog.cellsOf 4 = 1 := by kernel_rfl
theorem cells22 : Try.prog.cellsOf 22 = 1 := by kernel_rfl
theorem cells24 : Try.prog.cellsOf 24 = 1 := by kernel_rfl
theorem cells25 : Try.prog.cellsOf 25 = 1 := by kernel_rfl
theorem cells26 : Try.prog.cellsOf 26 = 1 := by kernel_rfl
theorem cells27 : Try.prog.cellsOf 27 = 1 := by kernel_rfl
theorem cells29 : Try.prog.cellsOf 29 = 5 := by kernel_rfl
theorem cells31 : Try.prog.cellsOf 31 = 2 := by kernel_rfl
theorem cells32 : Try.prog.cellsOf 32 = 1 := by kernel_rfl
theorem cells34 : Try.prog.cellsOf 34 = 7 := by kernel_rfl
theorem cells36 : Try.prog.cellsOf 36 = 14 := by kernel_rfl
theorem cells38 : Try.prog.cellsOf 38 = 28 := by kernel_rfl
theorem has24 : Sh.Has Try.prog (.int .i64) (.inl 24) := Try.underlying24
theorem has3 : Sh.Has Try.prog (.int .i64) (.inl 3) := Try.underlying3
theorem has25 : Sh.Has Try.prog (.int .u64) (.inl 25) := Try.underlying25
theorem has31 : Sh.Has Try.prog (.st (.pair (.int .i64) (.pair (.int .u64) .unit))) (.inl 31) := Sh.has_st Try.underlying31 (by kernel_rfl) (Sh.has_pair rfl (by kernel_rfl) has3 (Sh.has_pair rfl (by kernel_rfl) has25 Sh.has_unit))
theorem has32 : Sh.Has Try.prog (.slice (.int .i64)) (.inl 32) := Sh.has_slice Try.underlying32 (by kernel_rfl) (by decide) has3
theorem has34 : Sh.Has Try.prog (.st (.pair (.int .i64) (.pair (.int .u64) (.pair (.st (.pair (.int .i64) (.pair (.int .u64) .unit))) (.pair (.st (.pair (.int .i64) (.pair (.int .u64) .unit))) (.pair (.slice (.int .i64)) .unit)))))) (.inl 34) := Sh.has_st Try.underlying34 (by kernel_rfl) (Sh.has_pair rfl (by kernel_rfl) has3 (Sh.has_pair rfl (by kernel_rfl) has25 (Sh.has_pair rfl (by kernel_rfl) has31 (Sh.has_pair rfl (by kernel_rfl) has31 (Sh.has_pair rfl (by kernel_rfl) has32 Sh.has_unit)))))
theorem has26 : Sh.Has Try.prog (.slice (.st (.pair (.int .i64) (.pair (.int .u64) (.pair (.st (.pair (.int .i64) (.pair (.int .u64) .unit))) (.pair (.st (.pair (.int .i64) (.pair (.int .u64) .unit))) (.pair (.slice (.int .i64)) .unit))))))) (.inl 26) := Sh.has_slice Try.underlying26 (by kernel_rfl) (by decide) has34
theorem has36 : Sh.Has Try.prog (.st (.pair (.st (.pair (.int .i64) (.pair (.int .u64) (.pair (.st (.pair (.int .i64) (.pair (.int .u64) .unit))) (.pair (.st (.pair (.int .i64) (.pair (.int .u64) .unit))) (.pair (.slice (.int .i64)) .unit)))))) (.pair (.st (.pair (.int .i64) (.pair (.int .u64) (.pair (.st (.pair (.int .i64) (.pair (.int .u64) .unit))) (.pair (.st (.pair (.int .i64) (.pair (.int .u64) .unit))) (.pair (.slice (.int .i64)) .unit)))))) .unit))) (.inl 36) := Sh.has_st Try.underlying36 (by kernel_rfl) (Sh.has_pair rfl (by kernel_rfl) has34 (Sh.has_pair rfl (by kernel_rfl) has34 Sh.has_unit))
theorem has27 : Sh.Has Try.prog (.slice (.st (.pair (.st (.pair (.int .i64) (.pair (.int .u64) (.pair (.st (.pair (.int .i64) (.pair (.int .u64) .unit))) (.pair (.st (.pair (.int .i64) (.pair (.int .u64) .unit))) (.pair (.slice (.int .i64)) .unit)))))) (.pair (.st (.pair (.int .i64) (.pair (.int .u64) (.pair (.st (.pair (.int .i64) (.pair (.int .u64) .unit))) (.pair (.st (.pair (.int .i64) (.pair (.int .u64) .unit))) (.pair (.slice (.int .i64)) .unit)))))) .unit)))) (.inl 27) := Sh.has_slice Try.underlying27 (by kernel_rfl) (by decide) has36
theorem has29 : Sh.Has Try.prog (.st (.pair (.int .u64) (.pair (.int .u64) (.pair (.int .i64) (.pair (.slice (.st (.pair (.int .i64) (.pair (.int .u64) (.pair (.st (.pair (.int .i64) (.pair (.int .u64) .unit))) (.pair (.st (.pair (.int .i64) (.pair (.int .u64) .unit))) (.pair (.slice (.int .i64)) .unit))))))) (.pair (.slice (.st (.pair (.st (.pair (.int .i64) (.pair (.int .u64) (.pair (.st (.pair (.int .i64) (.pair (.int .u64) .unit))) (.pair (.st (.pair (.int .i64) (.pair (.int .u64) .unit))) (.pair (.slice (.int .i64)) .unit)))))) (.pair (.st (.pair (.int .i64) (.pair (.int .u64) (.pair (.st (.pair (.int .i64) (.pair (.int .u64) .unit))) (.pair (.st (.pair (.int .i64) (.pair (.int .u64) .unit))) (.pair (.slice (.int .i64)) .unit)))))) .unit)))) .unit)))))) (.inl 29) := Sh.has_st Try.underlying29 (by kernel_rfl) (Sh.has_pair rfl (by kernel_rfl) has25 (Sh.has_pair rfl (by kernel_rfl) has25 (Sh.has_pair rfl (by kernel_rfl) has3 (Sh.has_pair rfl (by kernel_rfl) has26 (Sh.has_pair rfl (by kernel_rfl) has27 Sh.has_unit)))))
theorem has38 : Sh.Has Try.prog (.st (.pair (.int .i64) (.pair (.int .i64) (.pair (.st (.pair (.int .u64) (.pair (.int .u64) (.pair (.int .i64) (.pair (.slice (.st (.pair (.int .i64) (.pair (.int .u64) (.pair (.st (.pair (.int .i64) (.pair (.int .u64) .unit))) (.pair (.st (.pair (.int .i64) (.pair (.int .u64) .unit))) (.pair (.slice (.int .i64)) .unit))))))) (.pair (.slice (.st (.pair (.st (.pair (.int .i64) (.pair (.int .u64) (.pair (.st (.pair (.int .i64) (.pair (.int .u64) .unit))) (.pair (.st (.pair (.int .i64) (.pair (.int .u64) .unit))) (.pair (.slice (.int .i64)) .unit)))))) (.pair (.st (.pair (.int .i64) (.pair (.int .u64) (.pair (.st (.pair (.int .i64) (.pair (.int .u64) .unit))) (.pair (.st (.pair (.int .i64) (.pair (.int .u64) .unit))) (.pair (.slice (.int .i64)) .unit)))))) .unit)))) .unit)))))) (.pair (.st (.pair (.int .i64) (.pair (.int .u64) (.pair (.st (.pair (.int .i64) (.pair (.int .u64) .unit))) (.pair (.st (.pair (.int .i64) (.pair (.int .u64) .unit))) (.pair (.slice (.int .i64)) .unit)))))) (.pair (.st (.pair (.st (.pair (.int .i64) (.pair (.int .u64) (.pair (.st (.pair (.int .i64) (.pair (.int .u64) .unit))) (.pair (.st (.pair (.int .i64) (.pair (.int .u64) .unit))) (.pair (.slice (.int .i64)) .unit)))))) (.pair (.st (.pair (.int .i64) (.pair (.int .u64) (.pair (.st (.pair (.int .i64) (.pair (.int .u64) .unit))) (.pair (.st (.pair (.int .i64) (.pair (.int .u64) .unit))) (.pair (.slice (.int .i64)) .unit)))))) .unit))) .unit)))))) (.inl 38) := Sh.has_st Try.underlying38 (by kernel_rfl) (Sh.has_pair rfl (by kernel_rfl) has24 (Sh.has_pair rfl (by kernel_rfl) has3 (Sh.has_pair rfl (by kernel_rfl) has29 (Sh.has_pair rfl (by kernel_rfl) has34 (Sh.has_pair rfl (by kernel_rfl) has36 Sh.has_unit)))))
theorem has22 : Sh.Has Try.prog (.slice (.st (.pair (.int .i64) (.pair (.int .i64) (.pair (.st (.pair (.int .u64) (.pair (.int .u64) (.pair (.int .i64) (.pair (.slice (.st (.pair (.int .i64) (.pair (.int .u64) (.pair (.st (.pair (.int .i64) (.pair (.int .u64) .unit))) (.pair (.st (.pair (.int .i64) (.pair (.int .u64) .unit))) (.pair (.slice (.int .i64)) .unit))))))) (.pair (.slice (.st (.pair (.st (.pair (.int .i64) (.pair (.int .u64) (.pair (.st (.pair (.int .i64) (.pair (.int .u64) .unit))) (.pair (.st (.pair (.int .i64) (.pair (.int .u64) .unit))) (.pair (.slice (.int .i64)) .unit)))))) (.pair (.st (.pair (.int .i64) (.pair (.int .u64) (.pair (.st (.pair (.int .i64) (.pair (.int .u64) .unit))) (.pair (.st (.pair (.int .i64) (.pair (.int .u64) .unit))) (.pair (.slice (.int .i64)) .unit)))))) .unit)))) .unit)))))) (.pair (.st (.pair (.int .i64) (.pair (.int .u64) (.pair (.st (.pair (.int .i64) (.pair (.int .u64) .unit))) (.pair (.st (.pair (.int .i64) (.pair (.int .u64) .unit))) (.pair (.slice (.int .i64)) .unit)))))) (.pair (.st (.pair (.st (.pair (.int .i64) (.pair (.int .u64) (.pair (.st (.pair (.int .i64) (.pair (.int .u64) .unit))) (.pair (.st (.pair (.int .i64) (.pair (.int .u64) .unit))) (.pair (.slice (.int .i64)) .unit)))))) (.pair (.st (.pair (.int .i64) (.pair (.int .u64) (.pair (.st (.pair (.int .i64) (.pair (.int .u64) .unit))) (.pair (.st (.pair (.int .i64) (.pair (.int .u64) .unit))) (.pair (.slice (.int .i64)) .unit)))))) .unit))) .unit))))))) (.inl 22) := Sh.has_slice Try.underlying22 (by kernel_rfl) (by decide) has38

set_option maxHeartbeats 1000000 in
theorem walk (a0 : Option Addr) (len0 cap0 : Nat) (e0 : Sh.Val (.slice (.st (.pair (.int .i64) (.pair (.int .i64) (.pair (.st (.pair (.int .u64) (.pair (.int .u64) (.pair (.int .i64) (.pair (.slice (.st (.pair (.int .i64) (.pair (.int .u64) (.pair (.st (.pair (.int .i64) (.pair (.int .u64) .unit))) (.pair (.st (.pair (.int .i64) (.pair (.int .u64) .unit))) (.pair (.slice (.int .i64)) .unit))))))) (.pair (.slice (.st (.pair (.st (.pair (.int .i64) (.pair (.int .u64) (.pair (.st (.pair (.int .i64) (.pair (.int .u64) .unit))) (.pair (.st (.pair (.int .i64) (.pair (.int .u64) .unit))) (.pair (.slice (.int .i64)) .unit)))))) (.pair (.st (.pair (.int .i64) (.pair (.int .u64) (.pair (.st (.pair (.int .i64) (.pair (.int .u64) .unit))) (.pair (.st (.pair (.int .i64) (.pair (.int .u64) .unit))) (.pair (.slice (.int .i64)) .unit)))))) .unit)))) .unit)))))) (.pair (.st (.pair (.int .i64) (.pair (.int .u64) (.pair (.st (.pair (.int .i64) (.pair (.int .u64) .unit))) (.pair (.st (.pair (.int .i64) (.pair (.int .u64) .unit))) (.pair (.slice (.int .i64)) .unit)))))) (.pair (.st (.pair (.st (.pair (.int .i64) (.pair (.int .u64) (.pair (.st (.pair (.int .i64) (.pair (.int .u64) .unit))) (.pair (.st (.pair (.int .i64) (.pair (.int .u64) .unit))) (.pair (.slice (.int .i64)) .unit)))))) (.pair (.st (.pair (.int .i64) (.pair (.int .u64) (.pair (.st (.pair (.int .i64) (.pair (.int .u64) .unit))) (.pair (.st (.pair (.int .i64) (.pair (.int .u64) .unit))) (.pair (.slice (.int .i64)) .unit)))))) .unit))) .unit)))))))) (w : World) (w0 : Sh.In (.slice (.st (.pair (.int .i64) (.pair (.int .i64) (.pair (.st (.pair (.int .u64) (.pair (.int .u64) (.pair (.int .i64) (.pair (.slice (.st (.pair (.int .i64) (.pair (.int .u64) (.pair (.st (.pair (.int .i64) (.pair (.int .u64) .unit))) (.pair (.st (.pair (.int .i64) (.pair (.int .u64) .unit))) (.pair (.slice (.int .i64)) .unit))))))) (.pair (.slice (.st (.pair (.st (.pair (.int .i64) (.pair (.int .u64) (.pair (.st (.pair (.int .i64) (.pair (.int .u64) .unit))) (.pair (.st (.pair (.int .i64) (.pair (.int .u64) .unit))) (.pair (.slice (.int .i64)) .unit)))))) (.pair (.st (.pair (.int .i64) (.pair (.int .u64) (.pair (.st (.pair (.int .i64) (.pair (.int .u64) .unit))) (.pair (.st (.pair (.int .i64) (.pair (.int .u64) .unit))) (.pair (.slice (.int .i64)) .unit)))))) .unit)))) .unit)))))) (.pair (.st (.pair (.int .i64) (.pair (.int .u64) (.pair (.st (.pair (.int .i64) (.pair (.int .u64) .unit))) (.pair (.st (.pair (.int .i64) (.pair (.int .u64) .unit))) (.pair (.slice (.int .i64)) .unit)))))) (.pair (.st (.pair (.st (.pair (.int .i64) (.pair (.int .u64) (.pair (.st (.pair (.int .i64) (.pair (.int .u64) .unit))) (.pair (.st (.pair (.int .i64) (.pair (.int .u64) .unit))) (.pair (.slice (.int .i64)) .unit)))))) (.pair (.st (.pair (.int .i64) (.pair (.int .u64) (.pair (.st (.pair (.int .i64) (.pair (.int .u64) .unit))) (.pair (.st (.pair (.int .i64) (.pair (.int .u64) .unit))) (.pair (.slice (.int .i64)) .unit)))))) .unit))) .unit))))))) w [.slice a0 len0 cap0] e0) :
    Calls Try.prog 3 #[.slice a0 len0 cap0] w fun e w' => e = .returned (.bool true) ∧ Below w.heap.size w w' := by
  have hE := eventsC_of w0
  clear w0
  generalize List.map toEv e0 = es at hE
  clear e0
  have hlen := hE.len
  have hcap := hE.cap
  unfold maxLen at hcap
  have H := hide hE
  clear hE
  go_enter Try.func3, Try.ntmps3
  go_wp2_with fail
  refine (awake_any _).mono ?_
  rintro r w1 ⟨rfl, hb1⟩
  have HB1 := hide hb1
  clear hb1
  by_cases h300 : (300 : Int) < (len0 : Int)
  · go_wp2
    go_ret
    exact ⟨rfl, HB1.out⟩
  go_wp2
  go_loopw [3, 4, 18] (fun x g i wr => ∃ (k m : Nat) (ao : Option Addr) (d : Nat), k ≤ len0 ∧ i = .int .i64 k ∧ x = .bool ((es.take k).all evB) ∧ g = .slice ao m d ∧ m ≤ k ∧ Hid (((es.take k).filter evB).length = m ∧ OwnRows (EventC w) 38 28 w.heap.size wr (.slice ao m d) ((es.take k).filter evB) ∧ Below w.heap.size w wr)) (fun _ _ i _ => len0 - (intOf i).toNat)
  case atStart => exact ⟨0, 0, none, 0, Nat.zero_le _, rfl, by simp, rfl, Nat.le_refl _, hide ⟨rfl, OwnRows.none _ _ _ _ _, HB1.out⟩⟩
  case round =>
    obtain ⟨k, m, ao, d, hk, rfl, rfl, rfl, hmk, hI⟩ := hrel
    by_cases hlt : k < len0
    · obtain ⟨b, off, cs, rfl, hbs, hcl, hcc, hE⟩ := H.out.row k (by omega)
      have ha := all_snoc es evB k (by omega)
      have hfl : (es.take (k + 1)).filter evB = (es.take k).filter evB ++ (if evB es[k] = true then [es[k]] else []) := by
        rw [List.take_succ_eq_append_getElem (by omega), List.filter_append]
        cases h : evB es[k] <;> simp [h]
      obtain ⟨e, hge⟩ : ∃ v, Hid (es[k] = v) := ⟨_, hide rfl⟩
      rw [hge.out] at hE ha hfl
      have ld1 : (Instr.loadAt 38 (.pointer (some ⟨b, off + k * 28, none⟩))).run Try.prog wr = .ok (.agg cs.toArray) wr :=
        load_mid Try.underlying38 infoEv hcl fun j hj => by
          have := (hI.out.2.2.cell (p := ⟨b, off + (k * 28 + j), none⟩) hbs).trans (hcc j hj)
          rwa [← Nat.add_assoc] at this
      have st1 : ∀ Z : Array Value, Z.size = 28 → (Instr.storeAt 38 (.pointer (some ⟨wr.heap.size, 0, none⟩)) (.agg cs.toArray)).run Try.prog (wr.alloc (.cells Z 38)) = .ok () (wr.alloc (.cells cs.toArray 38)) :=
        fun Z hZ => store_new infoEv hcl hZ hE.one.1 rfl
      have HE0 := hide hE
      have HCL := hide hcl
      have HA := hide ha
      have HFL := hide hfl
      have L1 := hide ld1
      have S1 := hide st1
      clear hE ha hfl hcc hcl ld1 st1
      go_wp2_with (first
        | (refine wpList_load_at 38 (.tmp 20) rfl rfl (.pointer (some ⟨b, off + k * 28, none⟩)) rfl (.agg cs.toArray) L1.out ?_)
        | (refine wpList_store_at 38 (.tmp 6) (.tmp 21) rfl rfl (.pointer (some ⟨wr.heap.size, 0, none⟩)) (.agg cs.toArray) rfl rfl _ (S1.out _ rfl) ?_))
      dsimp only [Act.put]
      obtain ⟨wa, hwa⟩ : ∃ x, Hid (wr.alloc (.cells cs.toArray 38) = x) := ⟨_, rfl⟩
      rw [hwa.out]
      have hpva : wa.heap[wr.heap.size]? = some (.cells cs.toArray 38 (0, 0)) := by rw [← hwa.out]; exact heap_alloc_new _ _
      have hlta : wr.heap.size < wa.heap.size := by rw [← hwa.out]; simp
      have hba : Below wr.heap.size wr wa := by rw [← hwa.out]; exact below_alloc _ _
      have hI2 := hI.out.2.2
      have hEw : Hid (∀ w', Below wr.heap.size wr w' → EventC w' cs e) := fun w' h => HE0.out.below (hI.out.2.2.trans (h.mono hI.out.2.2.size))
      have hLw : Hid (∀ w' : World, w'.heap[wr.heap.size]? = some (.cells cs.toArray 38 (0, 0)) → (Instr.loadAt 38 (.pointer (some ⟨wr.heap.size, 0, none⟩))).run Try.prog w' = .ok (.agg cs.toArray) w') := fun w' h => load_obj Try.underlying38 infoEv (by simpa using HCL.out) h
      obtain ⟨q, hq⟩ : ∃ q, Hid (evB e = q) := ⟨_, rfl⟩
      obtain ⟨p, hp⟩ : ∃ q, Hid ((es.take k).all evB = q) := ⟨_, rfl⟩
      have hM := hide (may_any e cs)
      have hLM := hide (lmay_any e cs)
      rw [hq.out] at HA HFL hM hLM
      rw [hp.out] at HA ⊢
      clear hI2 L1 S1
      refine wp_region_noPanic ?_
      refine wp_region_held_drew (S := fun w' => w'.heap[wr.heap.size]? = some (.cells cs.toArray 38 (0, 0))) (by kernel_rfl) hpva (fun hHeld => ?_)
      refine take_event (i := 0) wr.heap.size cs (.tmp 6) HCL.out rfl (by kernel_rfl) (by kernel_rfl) (by kernel_rfl) (fun _ _ _ h => h) rfl rfl rfl hHeld (fun _ h => h) ?_
      refine take_event (i := 2) wr.heap.size cs (.tmp 6) HCL.out rfl (by kernel_rfl) (by kernel_rfl) (by kernel_rfl) (fun _ _ _ h => h) rfl rfl rfl hHeld (fun _ h => h) ?_
      refine wpAnyH_ready (rs := [1]) (by kernel_rfl) (by simp) ?_
      refine AllReadyH.cons (o := _) rfl (fun K hK => ?_) AllReadyH.nil
      go_simp
      have hbd : Below wa.heap.size wa wa.drew := (Below.refl _ _).drew
      refine (hM.out wa.drew (hEw.out _ (hba.trans (hbd.mono hba.size)))).mono ?_
      rintro r wb ⟨rfl, hb⟩
      have hbb : Below wa.heap.size wa wb := hbd.trans hb
      refine hK.out _ _ ((hbb.block _ hlta).trans hpva) (fun hHeld => ?_)
      clear hK K hb
      refine wpAnyH_ready (rs := [3]) (by kernel_rfl) (by simp) ?_
      refine AllReadyH.cons (o := _) rfl (fun K hK => ?_) AllReadyH.nil
      go_simp
      refine (hLM.out wb (hEw.out _ (hba.trans (hbb.mono hba.size)))).mono ?_
      rintro r wc ⟨rfl, hb⟩
      have hbc : Below wa.heap.size wa wc := hbb.trans (hb.mono hbb.size)
      have hpvc : wc.heap[wr.heap.size]? = some (.cells cs.toArray 38 (0, 0)) := (hbc.block _ hlta).trans hpva
      refine hK.out _ _ hpvc (fun hHeld => ?_)
      clear hK K hb
      refine wpAnyH_take (i := 4) (v := .bool false) rfl (by kernel_rfl) (by kernel_rfl) (by kernel_rfl) (fun _ _ _ h => h) (Or.inl ⟨by rfl, ?_⟩) hHeld ?_
      · intro w' hSw
        go_simp
      refine wpAnyH_done (by kernel_rfl) ?_ _
      refine NoPanic.normal ?_
      have L3 := hide (hLw.out wc hpvc)
      go_wp2_with (refine wpList_load_at 38 (.tmp 6) rfl rfl (.pointer (some ⟨wr.heap.size, 0, none⟩)) rfl (.agg cs.toArray) L3.out ?_)
      refine (hLM.out wc (hEw.out _ (hba.trans (hbc.mono hba.size)))).mono ?_
      rintro r wd ⟨rfl, hb⟩
      have hbd2 : Below wa.heap.size wa wd := hbc.trans (hb.mono hbc.size)
      have hrd : Below wr.heap.size wr wd := hba.trans (hbd2.mono hba.size)
      have hpvd : wd.heap[wr.heap.size]? = some (.cells cs.toArray 38 (0, 0)) := (hbd2.block _ hlta).trans hpva
      have LD := hide (hLw.out wd hpvd)
      have HRD := hide hrd
      have HPD := hide hpvd
      have HWD := hide (hI.out.2.2.trans (hrd.mono hI.out.2.2.size))
      have hsw : wr.heap.size < wd.heap.size := Nat.lt_of_lt_of_le hlta hbd2.size
      clear hb hbc hbb hbd hbd2 hpvc hpvd hrd hba hpva L3
      cases q
      · rw [if_neg (by simp), List.append_nil] at HFL
        rw [Bool.and_false] at HA
        cases p
        · go_wp2
          go_roundw
          case rel => exact ⟨k + 1, m, ao, d, by omega, by go_num, by rw [HA.out], rfl, by omega, hide (by rw [HFL.out]; exact ⟨hI.out.1, hI.out.2.1.below HRD.out fun cs v h => h, HWD.out⟩)⟩
          case measure => simp [intOf]; omega
        · go_wp2_with (refine wpList_load_at_g 38 (.tmp 6) rfl rfl (.pointer (some ⟨wr.heap.size, 0, none⟩)) rfl (.agg cs.toArray) LD.out ?_)
          refine (hLM.out wd (hEw.out _ HRD.out)).mono ?_
          rintro r we ⟨rfl, hb⟩
          have hre : Below wr.heap.size wr we := HRD.out.trans (hb.mono HRD.out.size)
          have HRE := hide hre
          have HWE := hide (hI.out.2.2.trans (hre.mono hI.out.2.2.size))
          clear hb hre
          go_wp2
          go_roundw
          case rel => exact ⟨k + 1, m, ao, d, by omega, by go_num, by rw [HA.out], rfl, by omega, hide (by rw [HFL.out]; exact ⟨hI.out.1, hI.out.2.1.below HRE.out fun cs v h => h, HWE.out⟩)⟩
          case measure => simp [intOf]; omega
      · rw [if_pos rfl] at HFL
        rw [Bool.and_true] at HA
        obtain ⟨i0, hi, hz0, hz1, hz2⟩ := info_parts infoE
        have one : Hid (∀ (cs : List Value) (v : Ev), EventC w cs v → ∀ u ∈ cs, u.oneCell' = true) := fun cs v h => h.one.1
        have hO := hide (hI.out.2.1.below (HRD.out.trans ((below_alloc wd (.cells cs.toArray 38)).mono HRD.out.size)) fun cs v h => h)
        have hR := hide (RowsIn.lit (R := EventC w) wd wd.heap.size cs 38 28 e rfl HCL.out HE0.out)
        have hsd := HWD.out.size
        go_wp2_with (first
          | (refine wpList_load_at 38 (.tmp 6) rfl rfl (.pointer (some ⟨wr.heap.size, 0, none⟩)) rfl (.agg cs.toArray) LD.out ?_)
          | (refine wpList_build_one rfl 22 38 (.tmp 30) rfl cs 28 rfl HCL.out (by omega) i0 _ Try.underlying22 hi hz0 hz1 ?_)
          | (at_builtin; refine wpList_append_structs (R := EventC w) _ rfl (.tmp 29) (.tmp 31) 22 rfl w.heap.size 38 i0 (.agg (tickCs 0).toArray) 28 304 Try.underlying22 hi hz0 hz1 hz2 rfl (by omega) one.out (.slice ao m d) m (List.filter evB (List.take k es)) rfl hO.out hI.out.1 (some ⟨wd.heap.size, 0, none⟩) 1 1 [e] rfl hR.out ?c1 ?c2 ?c3 ?_))
        case c1 => unfold maxLen; omega
        case c2 => omega
        case c3 => simp; omega
        intro ao5 d5 we hown5 hg5
        rw [← HFL.out] at hown5
        have hlt5 : ∀ j, (Value.slice ao m d).ownBlock = some j → w.heap.size ≤ j ∧ j < wr.heap.size := fun j hj => by obtain ⟨css, _, ho⟩ := hI.out.2.1; exact ho.lt j hj
        have HWE := hide ((HWD.out.alloc hsd (.cells cs.toArray 38)).grown hg5 (by simp; omega) (fun j hj => (hlt5 j hj).1))
        have hpve : we.heap[wr.heap.size]? = some (.cells cs.toArray 38 (0, 0)) := by
          refine (hg5.block _ (by simp; omega) (fun e => ?_)).trans ((Below.heap_alloc _ _ _ hsw).trans HPD.out)
          have := (hlt5 _ e.symm).2
          omega
        have LE := hide (hLw.out we hpve)
        have HO5 := hide hown5
        clear hown5 hg5 hlt5 hO hR hpve LD
        have hlen5 : Hid ((List.filter evB (List.take (k + 1) es)).length = m + 1) := show _ = _ by rw [HFL.out, List.length_append, hI.out.1]; rfl
        have hrde : Below wr.heap.size wr wr := Below.refl _ _
        cases p
        · go_wp2
          go_roundw
          case rel => exact ⟨k + 1, m + 1, ao5, d5, by omega, by go_num, by rw [HA.out], rfl, by omega, hide ⟨hlen5.out, HO5.out, HWE.out⟩⟩
          case measure => simp [intOf]; omega
        · go_wp2_with (refine wpList_load_at_g 38 (.tmp 6) rfl rfl (.pointer (some ⟨wr.heap.size, 0, none⟩)) rfl (.agg cs.toArray) LE.out ?_)
          refine (hLM.out we (HE0.out.below HWE.out)).mono ?_
          rintro r wf ⟨rfl, hb⟩
          have HWF := hide (HWE.out.trans (hb.mono HWE.out.size))
          have HO6 := hide (HO5.out.below hb fun cs v h => h)
          clear hb
          go_wp2
          go_roundw
          case rel => exact ⟨k + 1, m + 1, ao5, d5, by omega, by go_num, by rw [HA.out], rfl, by omega, hide ⟨hlen5.out, HO6.out, HWF.out⟩⟩
          case measure => simp [intOf]; omega
    · have : k = len0 := by omega
      subst this
      rw [List.take_of_length_le (by omega)] at hI ⊢
      obtain ⟨gs, hgs⟩ : ∃ x, Hid (es.filter evB = x) := ⟨_, rfl⟩
      rw [hgs.out] at hI
      have hga : gs.all evB = true := by rw [← hgs.out]; simp
      have hgl : gs.length ≤ 4096 := by rw [hI.out.1]; omega
      have hev : Hid (evsB es = es.all evB) := show _ = _ by rw [evsB, decide_eq_true (by omega)]; rfl
      have hgv : Hid (evsB gs = true) := show _ = _ by rw [evsB, decide_eq_true hgl, hga]; rfl
      obtain ⟨q, hq⟩ : ∃ q, Hid (es.all evB = q) := ⟨_, rfl⟩
      have HGA := hide hga
      rw [hq.out] at hev ⊢
      have hsr := hI.out.2.2.size
      clear hga hgl
      go_wp2_with fail
      refine (enc_any es _ _ _ _ (H.out.mono hI.out.2.2 fun cs v h => h.below hI.out.2.2)).mono ?_
      rintro r v2 ⟨ao2, n2, d2, rfl, hn2, R2, hb⟩
      have hb2 : Below wr.heap.size wr v2 := hb
      have HB2 := hide (hI.out.2.2.trans (hb2.mono hsr))
      have HG2 := hide (hI.out.2.1.below hb2 fun cs v h => h)
      have HR2 := hide R2
      rw [hev.out]
      clear hb hb2 R2
      obtain ⟨ag, dg, eg, RG⟩ := HG2.out.rows (by omega)
      rw [hI.out.1] at eg RG
      cases eg
      have HRG := hide (RG.mono (Below.refl _ _) fun cs v h => h.below HB2.out)
      clear RG
      go_wp2_with fail
      refine (enc_any gs _ _ _ _ HRG.out).mono ?_
      rintro r v3 ⟨ao3, n3, d3, rfl, hn3, R3, hb⟩
      rw [hgv.out]
      rw [encBs_yes hgv.out] at R3
      have HB3 := hide (HB2.out.trans (hb.mono HB2.out.size))
      have HR23 := hide (HR2.out.below hb)
      have HR3 := hide R3
      have HRG3 := hide (HRG.out.mono hb fun cs v h => h.below hb)
      have HX3 := hide (H.out.mono HB3.out fun cs v h => h.below HB3.out)
      clear hb R3
      have hdr : Below v3.heap.size v3 v3.drew := (Below.refl _ _).drew
      have HOK := hide (List.all_eq_true.1 HGA.out)
      obtain ⟨s1, hs1⟩ : ∃ x, Hid (strOfNums (encBs es) = x) := ⟨_, rfl⟩
      obtain ⟨s2, hs2⟩ : ∃ x, Hid (strOfNums (bytesOf gs) = x) := ⟨_, rfl⟩
      have hC : Hid (∀ w', Below v3.heap.size v3 w' → (convert 40 9 (.slice ao2 n2 d2)).run Try.prog w' = .ok (.string s1) w' ∧ (convert 40 9 (.slice ao3 n3 d3)).run Try.prog w' = .ok (.string s2) w') := fun w' h => by
        rw [← hs1.out, ← hs2.out]
        exact ⟨conv_row (HR23.out.below h), conv_row (HR3.out.below h)⟩
      have hs3 := HB3.out.size
      cases q
      · have hz : n2 = 0 := by have := HR2.out.len; rw [encBs_no hev.out] at this; exact this.symm
        subst hz
        go_wp2_with fail
        refine wp_region_noPanic ?_
        refine wp_region_held_drew (S := fun w' => (convert 40 9 (.slice ao2 0 d2)).run Try.prog w' = .ok (.string s1) w' ∧ (convert 40 9 (.slice ao3 n3 d3)).run Try.prog w' = .ok (.string s2) w') (by kernel_rfl) (hC.out _ hdr) (fun hHeld => ?_)
        refine take_set (i := 0) (v := .bool false) rfl rfl (by kernel_rfl) (by kernel_rfl) (by kernel_rfl) (fun _ _ _ h => h) (Or.inl ⟨by kernel_rfl, fun w' hSw => ?_⟩) hHeld ?_
        · go_simp
        simp only [List.set_cons_succ, List.set_cons_zero]
        refine take_set (i := 1) (v := .bool false) rfl rfl (by kernel_rfl) (by kernel_rfl) (by kernel_rfl) (fun _ _ _ h => h) (Or.inl ⟨by kernel_rfl, fun w' hSw => ?_⟩) hHeld ?_
        · go_simp
        simp only [List.set_cons_succ, List.set_cons_zero]
        refine take_set (i := 2) (v := .bool true) rfl rfl (by kernel_rfl) (by kernel_rfl) (by kernel_rfl) (fun _ _ _ h => h) (Or.inl ⟨by kernel_rfl, fun w' hSw => ?_⟩) hHeld ?_
        · go_simp
        simp only [List.set_cons_succ, List.set_cons_zero]
        refine take_set (i := 3) (v := .bool true) rfl rfl (by kernel_rfl) (by kernel_rfl) (by kernel_rfl) (fun _ _ _ h => h) (Or.inl ⟨by kernel_rfl, fun w' hSw => ?_⟩) hHeld ?_
        · go_simp
        simp only [List.set_cons_succ, List.set_cons_zero]
        refine take_set (i := 4) (v := .bool false) rfl rfl (by kernel_rfl) (by kernel_rfl) (by kernel_rfl) (fun _ _ _ h => h) (Or.inl ⟨by kernel_rfl, fun w' hSw => ?_⟩) hHeld ?_
        · go_simp
        simp only [List.set_cons_succ, List.set_cons_zero]
        refine take_set (i := 5) (v := .bool false) rfl rfl (by kernel_rfl) (by kernel_rfl) (by kernel_rfl) (fun _ _ _ h => h) (Or.inl ⟨by kernel_rfl, fun w' hSw => ?_⟩) hHeld ?_
        · go_simp
        simp only [List.set_cons_succ, List.set_cons_zero]
        refine take_set (i := 6) (v := undef) rfl rfl (by kernel_rfl) (by kernel_rfl) (by kernel_rfl) (fun _ _ _ h => h) (Or.inr ⟨by kernel_rfl, rfl⟩) hHeld ?_
        simp only [List.set_cons_succ, List.set_cons_zero]
        refine take_set (i := 7) (v := undef) rfl rfl (by kernel_rfl) (by kernel_rfl) (by kernel_rfl) (fun _ _ _ h => h) (Or.inr ⟨by kernel_rfl, rfl⟩) hHeld ?_
        simp only [List.set_cons_succ, List.set_cons_zero]
        refine take_set (i := 8) (v := undef) rfl rfl (by kernel_rfl) (by kernel_rfl) (by kernel_rfl) (fun _ _ _ h => h) (Or.inr ⟨by kernel_rfl, rfl⟩) hHeld ?_
        simp only [List.set_cons_succ, List.set_cons_zero]
        refine take_set (i := 9) (v := undef) rfl rfl (by kernel_rfl) (by kernel_rfl) (by kernel_rfl) (fun _ _ _ h => h) (Or.inr ⟨by kernel_rfl, rfl⟩) hHeld ?_
        simp only [List.set_cons_succ, List.set_cons_zero]
        refine take_set (i := 10) (v := undef) rfl rfl (by kernel_rfl) (by kernel_rfl) (by kernel_rfl) (fun _ _ _ h => h) (Or.inr ⟨by kernel_rfl, rfl⟩) hHeld ?_
        simp only [List.set_cons_succ, List.set_cons_zero]
        refine take_set (i := 11) (v := undef) rfl rfl (by kernel_rfl) (by kernel_rfl) (by kernel_rfl) (fun _ _ _ h => h) (Or.inr ⟨by kernel_rfl, rfl⟩) hHeld ?_
        simp only [List.set_cons_succ, List.set_cons_zero]
        refine take_set (i := 12) (v := .bool false) rfl rfl (by kernel_rfl) (by kernel_rfl) (by kernel_rfl) (fun _ _ _ h => h) (Or.inl ⟨by kernel_rfl, fun w' hSw => ?_⟩) hHeld ?_
        · go_simp
        simp only [List.set_cons_succ, List.set_cons_zero]
        refine take_set (i := 13) (v := .bool false) rfl rfl (by kernel_rfl) (by kernel_rfl) (by kernel_rfl) (fun _ _ _ h => h) (Or.inl ⟨by kernel_rfl, fun w' hSw => ?_⟩) hHeld ?_
        · go_simp
        simp only [List.set_cons_succ, List.set_cons_zero]
        refine take_set (i := 14) (v := .bool false) rfl rfl (by kernel_rfl) (by kernel_rfl) (by kernel_rfl) (fun _ _ _ h => h) (Or.inl ⟨by kernel_rfl, fun w' hSw => ?_⟩) hHeld ?_
        · go_simp
        simp only [List.set_cons_succ, List.set_cons_zero]
        refine take_set (i := 15) (v := .bool true) rfl rfl (by kernel_rfl) (by kernel_rfl) (by kernel_rfl) (fun _ _ _ h => h) (Or.inl ⟨by kernel_rfl, fun w' hSw => ?_⟩) hHeld ?_
        · go_simp
        simp only [List.set_cons_succ, List.set_cons_zero]
        refine take_set (i := 16) (v := .bool true) rfl rfl (by kernel_rfl) (by kernel_rfl) (by kernel_rfl) (fun _ _ _ h => h) (Or.inl ⟨by kernel_rfl, fun w' hSw => ?_⟩) hHeld ?_
        · go_simp
        simp only [List.set_cons_succ, List.set_cons_zero]
        refine take_set (i := 17) (v := .slice ao2 0 d2) rfl rfl (by kernel_rfl) (by kernel_rfl) (by kernel_rfl) (fun _ _ _ h => h) (Or.inl ⟨by kernel_rfl, fun w' hSw => ?_⟩) hHeld ?_
        · go_simp
        simp only [List.set_cons_succ, List.set_cons_zero]
        refine take_set (i := 18) (v := .int .i64 0) rfl rfl (by kernel_rfl) (by kernel_rfl) (by kernel_rfl) (fun _ _ _ h => h) (Or.inl ⟨by kernel_rfl, fun w' hSw => ?_⟩) hHeld ?_
        · go_simp
        simp only [List.set_cons_succ, List.set_cons_zero]
        refine take_set (i := 19) (v := .bool true) rfl rfl (by kernel_rfl) (by kernel_rfl) (by kernel_rfl) (fun _ _ _ h => h) (Or.inl ⟨by kernel_rfl, fun w' hSw => ?_⟩) hHeld ?_
        · go_simp
        simp only [List.set_cons_succ, List.set_cons_zero]
        refine take_set (i := 20) (v := .bool true) rfl rfl (by kernel_rfl) (by kernel_rfl) (by kernel_rfl) (fun _ _ _ h => h) (Or.inl ⟨by kernel_rfl, fun w' hSw => ?_⟩) hHeld ?_
        · go_simp
        simp only [List.set_cons_succ, List.set_cons_zero]
        refine take_set (i := 21) (v := .bool true) rfl rfl (by kernel_rfl) (by kernel_rfl) (by kernel_rfl) (fun _ _ _ h => h) (Or.inl ⟨by kernel_rfl, fun w' hSw => ?_⟩) hHeld ?_
        · go_simp
        simp only [List.set_cons_succ, List.set_cons_zero]
        refine take_set (i := 22) (v := .bool true) rfl rfl (by kernel_rfl) (by kernel_rfl) (by kernel_rfl) (fun _ _ _ h => h) (Or.inl ⟨by kernel_rfl, fun w' hSw => ?_⟩) hHeld ?_
        · go_simp
        simp only [List.set_cons_succ, List.set_cons_zero]
        refine take_set (i := 23) (v := .bool true) rfl rfl (by kernel_rfl) (by kernel_rfl) (by kernel_rfl) (fun _ _ _ h => h) (Or.inl ⟨by kernel_rfl, fun w' hSw => ?_⟩) hHeld ?_
        · go_simp
        simp only [List.set_cons_succ, List.set_cons_zero]
        refine take_set (i := 24) (v := .bool true) rfl rfl (by kernel_rfl) (by kernel_rfl) (by kernel_rfl) (fun _ _ _ h => h) (Or.inl ⟨by kernel_rfl, fun w' hSw => ?_⟩) hHeld ?_
        · go_simp
        simp only [List.set_cons_succ, List.set_cons_zero]
        refine take_set (i := 25) (v := .bool true) rfl rfl (by kernel_rfl) (by kernel_rfl) (by kernel_rfl) (fun _ _ _ h => h) (Or.inl ⟨by kernel_rfl, fun w' hSw => ?_⟩) hHeld ?_
        · go_simp
        simp only [List.set_cons_succ, List.set_cons_zero]
        refine take_set (i := 26) (v := .bool true) rfl rfl (by kernel_rfl) (by kernel_rfl) (by kernel_rfl) (fun _ _ _ h => h) (Or.inl ⟨by kernel_rfl, fun w' hSw => ?_⟩) hHeld ?_
        · go_simp
        simp only [List.set_cons_succ, List.set_cons_zero]
        refine take_set (i := 27) (v := .slice ao3 n3 d3) rfl rfl (by kernel_rfl) (by kernel_rfl) (by kernel_rfl) (fun _ _ _ h => h) (Or.inl ⟨by kernel_rfl, fun w' hSw => ?_⟩) hHeld ?_
        · go_simp
        simp only [List.set_cons_succ, List.set_cons_zero]
        refine take_set (i := 28) (v := .string s2) rfl rfl (by kernel_rfl) (by kernel_rfl) (by kernel_rfl) (fun _ _ _ h => h) (Or.inl ⟨by kernel_rfl, fun w' hSw => ?_⟩) hHeld ?_
        · go_simp
        simp only [List.set_cons_succ, List.set_cons_zero]
        refine take_set (i := 29) (v := .slice ao m d) rfl rfl (by kernel_rfl) (by kernel_rfl) (by kernel_rfl) (fun _ _ _ h => h) (Or.inl ⟨by kernel_rfl, fun w' hSw => ?_⟩) hHeld ?_
        · go_simp
        simp only [List.set_cons_succ, List.set_cons_zero]
        refine wpAnyH_ready (rs := [30]) (by kernel_rfl) (by simp) ?_
        refine AllReadyH.cons (o := _) rfl (fun K hK => ?_) AllReadyH.nil
        go_simp
        refine (lbytes_any gs _ _ _ v3.drew (HRG3.out.mono hdr fun cs v h => h.below hdr) HOK.out (by omega)).mono ?_
        rintro r v5 ⟨ao5, n5, d5, rfl, hn5, _, own5, hb⟩
        obtain ⟨ax, dx, ex, R5⟩ := RowIn.ofOwned own5
        cases ex
        have cv5 := conv_row R5
        rw [hs2.out] at cv5
        have hb5 : Below v3.heap.size v3 v5 := hdr.trans hb
        have HB5 := hide (HB3.out.trans (hb5.mono hs3))
        have HC5 := hide (hC.out v5 hb5)
        clear own5 R5 hb hb5 hn5
        refine hK.out _ _ (HC5.out) (fun hHeld => ?_)
        clear hK K
        refine wpAnyH_ready (rs := [31]) (by kernel_rfl) (by simp) ?_
        refine AllReadyH.cons (o := _) rfl (fun K hK => ?_) AllReadyH.nil
        go_simp
        refine hK.out _ _ (HC5.out) (fun hHeld => ?_)
        clear hK K
        refine take_set (i := 32) (v := .bool true) rfl rfl (by kernel_rfl) (by kernel_rfl) (by kernel_rfl) (fun _ _ _ h => h) (Or.inl ⟨by kernel_rfl, fun w' hSw => ?_⟩) hHeld ?_
        · go_simp
        simp only [List.set_cons_succ, List.set_cons_zero]
        refine take_set (i := 33) (v := .bool true) rfl rfl (by kernel_rfl) (by kernel_rfl) (by kernel_rfl) (fun _ _ _ h => h) (Or.inl ⟨by kernel_rfl, fun w' hSw => ?_⟩) hHeld ?_
        · go_simp
        simp only [List.set_cons_succ, List.set_cons_zero]
        refine take_set (i := 34) (v := .bool true) rfl rfl (by kernel_rfl) (by kernel_rfl) (by kernel_rfl) (fun _ _ _ h => h) (Or.inl ⟨by kernel_rfl, fun w' hSw => ?_⟩) hHeld ?_
        · go_simp
        simp only [List.set_cons_succ, List.set_cons_zero]
        refine wpAnyH_done (by kernel_rfl) ?_ _
        refine NoPanic.normal ?_
        go_wp2
        go_ret
        exact ⟨rfl, HB5.out⟩
      · have HEQ := hide (encBs_yes hev.out)
        have HOE := hide (List.all_eq_true.1 hq.out)
        go_wp2_with fail
        refine wp_region_noPanic ?_
        refine wp_region_held_drew (S := fun w' => (convert 40 9 (.slice ao2 n2 d2)).run Try.prog w' = .ok (.string s1) w' ∧ (convert 40 9 (.slice ao3 n3 d3)).run Try.prog w' = .ok (.string s2) w') (by kernel_rfl) (hC.out _ hdr) (fun hHeld => ?_)
        refine take_set (i := 0) (v := .bool true) rfl rfl (by kernel_rfl) (by kernel_rfl) (by kernel_rfl) (fun _ _ _ h => h) (Or.inl ⟨by kernel_rfl, fun w' hSw => ?_⟩) hHeld ?_
        · go_simp
        simp only [List.set_cons_succ, List.set_cons_zero]
        refine take_set (i := 1) (v := .bool true) rfl rfl (by kernel_rfl) (by kernel_rfl) (by kernel_rfl) (fun _ _ _ h => h) (Or.inl ⟨by kernel_rfl, fun w' hSw => ?_⟩) hHeld ?_
        · go_simp
        simp only [List.set_cons_succ, List.set_cons_zero]
        refine take_set (i := 2) (v := .bool true) rfl rfl (by kernel_rfl) (by kernel_rfl) (by kernel_rfl) (fun _ _ _ h => h) (Or.inl ⟨by kernel_rfl, fun w' hSw => ?_⟩) hHeld ?_
        · go_simp
        simp only [List.set_cons_succ, List.set_cons_zero]
        refine take_set (i := 3) (v := .bool true) rfl rfl (by kernel_rfl) (by kernel_rfl) (by kernel_rfl) (fun _ _ _ h => h) (Or.inl ⟨by kernel_rfl, fun w' hSw => ?_⟩) hHeld ?_
        · go_simp
        simp only [List.set_cons_succ, List.set_cons_zero]
        refine take_set (i := 4) (v := .bool true) rfl rfl (by kernel_rfl) (by kernel_rfl) (by kernel_rfl) (fun _ _ _ h => h) (Or.inl ⟨by kernel_rfl, fun w' hSw => ?_⟩) hHeld ?_
        · go_simp
        simp only [List.set_cons_succ, List.set_cons_zero]
        refine take_set (i := 5) (v := .bool true) rfl rfl (by kernel_rfl) (by kernel_rfl) (by kernel_rfl) (fun _ _ _ h => h) (Or.inl ⟨by kernel_rfl, fun w' hSw => ?_⟩) hHeld ?_
        · go_simp
        simp only [List.set_cons_succ, List.set_cons_zero]
        refine take_set (i := 6) (v := .slice ao2 n2 d2) rfl rfl (by kernel_rfl) (by kernel_rfl) (by kernel_rfl) (fun _ _ _ h => h) (Or.inl ⟨by kernel_rfl, fun w' hSw => ?_⟩) hHeld ?_
        · go_simp
        simp only [List.set_cons_succ, List.set_cons_zero]
        refine take_set (i := 7) (v := .string s1) rfl rfl (by kernel_rfl) (by kernel_rfl) (by kernel_rfl) (fun _ _ _ h => h) (Or.inl ⟨by kernel_rfl, fun w' hSw => ?_⟩) hHeld ?_
        · go_simp
        simp only [List.set_cons_succ, List.set_cons_zero]
        refine take_set (i := 8) (v := .slice a0 k cap0) rfl rfl (by kernel_rfl) (by kernel_rfl) (by kernel_rfl) (fun _ _ _ h => h) (Or.inl ⟨by kernel_rfl, fun w' hSw => ?_⟩) hHeld ?_
        · go_simp
        simp only [List.set_cons_succ, List.set_cons_zero]
        refine wpAnyH_ready (rs := [9]) (by kernel_rfl) (by simp) ?_
        refine AllReadyH.cons (o := _) rfl (fun K hK => ?_) AllReadyH.nil
        go_simp
        refine (lbytes_any es _ _ _ v3.drew (HX3.out.mono hdr fun cs v h => h.below hdr) HOE.out (by omega)).mono ?_
        rintro r v4 ⟨ao4, n4, d4, rfl, hn4, _, own4, hb⟩
        obtain ⟨ax, dx, ex, R4⟩ := RowIn.ofOwned own4
        cases ex
        have cv4 := conv_row R4
        rw [← HEQ.out, hs1.out] at cv4
        have hb4 : Below v3.heap.size v3 v4 := hdr.trans hb
        have HB4 := hide hb4
        have HC4 := hide (hC.out v4 hb4)
        clear own4 R4 hb hb4 hn4
        refine hK.out _ _ (HC4.out) (fun hHeld => ?_)
        clear hK K
        refine wpAnyH_ready (rs := [10]) (by kernel_rfl) (by simp) ?_
        refine AllReadyH.cons (o := _) rfl (fun K hK => ?_) AllReadyH.nil
        go_simp
        refine hK.out _ _ (HC4.out) (fun hHeld => ?_)
        clear hK K
        refine take_set (i := 11) (v := .bool true) rfl rfl (by kernel_rfl) (by kernel_rfl) (by kernel_rfl) (fun _ _ _ h => h) (Or.inl ⟨by kernel_rfl, fun w' hSw => ?_⟩) hHeld ?_
        · go_simp
        simp only [List.set_cons_succ, List.set_cons_zero]
        refine take_set (i := 12) (v := .bool true) rfl rfl (by kernel_rfl) (by kernel_rfl) (by kernel_rfl) (fun _ _ _ h => h) (Or.inl ⟨by kernel_rfl, fun w' hSw => ?_⟩) hHeld ?_
        · go_simp
        simp only [List.set_cons_succ, List.set_cons_zero]
        refine take_set (i := 13) (v := .bool true) rfl rfl (by kernel_rfl) (by kernel_rfl) (by kernel_rfl) (fun _ _ _ h => h) (Or.inl ⟨by kernel_rfl, fun w' hSw => ?_⟩) hHeld ?_
        · go_simp
        simp only [List.set_cons_succ, List.set_cons_zero]
        refine take_set (i := 14) (v := undef) rfl rfl (by kernel_rfl) (by kernel_rfl) (by kernel_rfl) (fun _ _ _ h => h) (Or.inr ⟨by kernel_rfl, rfl⟩) hHeld ?_
        simp only [List.set_cons_succ, List.set_cons_zero]
        refine take_set (i := 15) (v := undef) rfl rfl (by kernel_rfl) (by kernel_rfl) (by kernel_rfl) (fun _ _ _ h => h) (Or.inr ⟨by kernel_rfl, rfl⟩) hHeld ?_
        simp only [List.set_cons_succ, List.set_cons_zero]
        refine take_set (i := 16) (v := undef) rfl rfl (by kernel_rfl) (by kernel_rfl) (by kernel_rfl) (fun _ _ _ h => h) (Or.inr ⟨by kernel_rfl, rfl⟩) hHeld ?_
        simp only [List.set_cons_succ, List.set_cons_zero]
        refine take_set (i := 17) (v := undef) rfl rfl (by kernel_rfl) (by kernel_rfl) (by kernel_rfl) (fun _ _ _ h => h) (Or.inr ⟨by kernel_rfl, rfl⟩) hHeld ?_
        simp only [List.set_cons_succ, List.set_cons_zero]
        refine take_set (i := 18) (v := undef) rfl rfl (by kernel_rfl) (by kernel_rfl) (by kernel_rfl) (fun _ _ _ h => h) (Or.inr ⟨by kernel_rfl, rfl⟩) hHeld ?_
        simp only [List.set_cons_succ, List.set_cons_zero]
        refine take_set (i := 19) (v := undef) rfl rfl (by kernel_rfl) (by kernel_rfl) (by kernel_rfl) (fun _ _ _ h => h) (Or.inr ⟨by kernel_rfl, rfl⟩) hHeld ?_
        simp only [List.set_cons_succ, List.set_cons_zero]
        refine take_set (i := 20) (v := undef) rfl rfl (by kernel_rfl) (by kernel_rfl) (by kernel_rfl) (fun _ _ _ h => h) (Or.inr ⟨by kernel_rfl, rfl⟩) hHeld ?_
        simp only [List.set_cons_succ, List.set_cons_zero]
        refine take_set (i := 21) (v := .bool true) rfl rfl (by kernel_rfl) (by kernel_rfl) (by kernel_rfl) (fun _ _ _ h => h) (Or.inl ⟨by kernel_rfl, fun w' hSw => ?_⟩) hHeld ?_
        · go_simp
        simp only [List.set_cons_succ, List.set_cons_zero]
        refine take_set (i := 22) (v := .bool true) rfl rfl (by kernel_rfl) (by kernel_rfl) (by kernel_rfl) (fun _ _ _ h => h) (Or.inl ⟨by kernel_rfl, fun w' hSw => ?_⟩) hHeld ?_
        · go_simp
        simp only [List.set_cons_succ, List.set_cons_zero]
        refine take_set (i := 23) (v := .bool true) rfl rfl (by kernel_rfl) (by kernel_rfl) (by kernel_rfl) (fun _ _ _ h => h) (Or.inl ⟨by kernel_rfl, fun w' hSw => ?_⟩) hHeld ?_
        · go_simp
        simp only [List.set_cons_succ, List.set_cons_zero]
        refine take_set (i := 24) (v := .bool true) rfl rfl (by kernel_rfl) (by kernel_rfl) (by kernel_rfl) (fun _ _ _ h => h) (Or.inl ⟨by kernel_rfl, fun w' hSw => ?_⟩) hHeld ?_
        · go_simp
        simp only [List.set_cons_succ, List.set_cons_zero]
        refine take_set (i := 25) (v := .bool true) rfl rfl (by kernel_rfl) (by kernel_rfl) (by kernel_rfl) (fun _ _ _ h => h) (Or.inl ⟨by kernel_rfl, fun w' hSw => ?_⟩) hHeld ?_
        · go_simp
        simp only [List.set_cons_succ, List.set_cons_zero]
        refine take_set (i := 26) (v := .bool true) rfl rfl (by kernel_rfl) (by kernel_rfl) (by kernel_rfl) (fun _ _ _ h => h) (Or.inl ⟨by kernel_rfl, fun w' hSw => ?_⟩) hHeld ?_
        · go_simp
        simp only [List.set_cons_succ, List.set_cons_zero]
        refine take_set (i := 27) (v := .slice ao3 n3 d3) rfl rfl (by kernel_rfl) (by kernel_rfl) (by kernel_rfl) (fun _ _ _ h => h) (Or.inl ⟨by kernel_rfl, fun w' hSw => ?_⟩) hHeld ?_
        · go_simp
        simp only [List.set_cons_succ, List.set_cons_zero]
        refine take_set (i := 28) (v := .string s2) rfl rfl (by kernel_rfl) (by kernel_rfl) (by kernel_rfl) (fun _ _ _ h => h) (Or.inl ⟨by kernel_rfl, fun w' hSw => ?_⟩) hHeld ?_
        · go_simp
        simp only [List.set_cons_succ, List.set_cons_zero]
        refine take_set (i := 29) (v := .slice ao m d) rfl rfl (by kernel_rfl) (by kernel_rfl) (by kernel_rfl) (fun _ _ _ h => h) (Or.inl ⟨by kernel_rfl, fun w' hSw => ?_⟩) hHeld ?_
        · go_simp
        simp only [List.set_cons_succ, List.set_cons_zero]
        refine wpAnyH_ready (rs := [30]) (by kernel_rfl) (by simp) ?_
        refine AllReadyH.cons (o := _) rfl (fun K hK => ?_) AllReadyH.nil
        go_simp
        refine (lbytes_any gs _ _ _ v4 (HRG3.out.mono HB4.out fun cs v h => h.below HB4.out) HOK.out (by omega)).mono ?_
        rintro r v5 ⟨ao5, n5, d5, rfl, hn5, _, own5, hb⟩
        obtain ⟨ax, dx, ex, R5⟩ := RowIn.ofOwned own5
        cases ex
        have cv5 := conv_row R5
        rw [hs2.out] at cv5
        have hb5 : Below v3.heap.size v3 v5 := HB4.out.trans (hb.mono HB4.out.size)
        have HB5 := hide (HB3.out.trans (hb5.mono hs3))
        have HC5 := hide (hC.out v5 hb5)
        clear own5 R5 hb hb5 hn5
        refine hK.out _ _ (HC5.out) (fun hHeld => ?_)
        clear hK K
        refine wpAnyH_ready (rs := [31]) (by kernel_rfl) (by simp) ?_
        refine AllReadyH.cons (o := _) rfl (fun K hK => ?_) AllReadyH.nil
        go_simp
        refine hK.out _ _ (HC5.out) (fun hHeld => ?_)
        clear hK K
        refine take_set (i := 32) (v := .bool true) rfl rfl (by kernel_rfl) (by kernel_rfl) (by kernel_rfl) (fun _ _ _ h => h) (Or.inl ⟨by kernel_rfl, fun w' hSw => ?_⟩) hHeld ?_
        · go_simp
        simp only [List.set_cons_succ, List.set_cons_zero]
        refine take_set (i := 33) (v := .bool true) rfl rfl (by kernel_rfl) (by kernel_rfl) (by kernel_rfl) (fun _ _ _ h => h) (Or.inl ⟨by kernel_rfl, fun w' hSw => ?_⟩) hHeld ?_
        · go_simp
        simp only [List.set_cons_succ, List.set_cons_zero]
        refine take_set (i := 34) (v := .bool true) rfl rfl (by kernel_rfl) (by kernel_rfl) (by kernel_rfl) (fun _ _ _ h => h) (Or.inl ⟨by kernel_rfl, fun w' hSw => ?_⟩) hHeld ?_
        · go_simp
        simp only [List.set_cons_succ, List.set_cons_zero]
        refine wpAnyH_done (by kernel_rfl) ?_ _
        refine NoPanic.normal ?_
        go_wp2
        go_ret
        exact ⟨rfl, HB5.out⟩

set_option maxRecDepth 100000 in
theorem lifted (os : Os) (started : os.Started) (H : Type) (enc : TypeId × Value → H) :
    ReturnsInHanded {} Try.checked os 3 .any (Rows.wireBytesSpec.pre6 enc Try.prog Try.f3 Rows.wireBytesRow.domain false) (Rows.wireBytesSpec.post enc Try.prog Try.f3 false true false false) := by
  refine returnsInHanded_of_change (C := Try.checked) own started (by kernel_rfl) Try.func3
    (ChangeSpec.witness6 (enc := enc) (C := Try.checked) false ⟨#[], #[.slice none 0 0], []⟩ 8 (by kernel_rfl) (by kernel_rfl) (by kernel_rfl) (by kernel_rfl)) ?_
  intro W base args ds gs before hval0 hW hcnd _
  have hval : ∀ (j : Nat) t v, Try.f3.params[j]? = some t → args[j]? = some v → Value.okWide Try.prog W .any base t v := hval0
  have hW' := hW
  obtain ⟨p, q, hA0, hV, rfl, hfz, hnd⟩ := hW
  have hA : DataW.TrodAll enc Try.prog W 0 (fun _ => true) true Try.f3.params.toList args.toList ds p := hA0
  rw [Try.params3] at hA hval
  obtain ⟨v0, vs0, d0, ds0, p0, q0, hargs, rfl, rfl, h0, r0⟩ := trodAll_cons hA
  obtain ⟨rfl, rfl, rfl⟩ := trodAll_nil r0
  obtain rfl : args = #[v0] := by cases args; simp_all
  obtain ⟨rfl, rfl⟩ := trodVars_none hV
  obtain ⟨a0, len0, cap0, rfl⟩ := okWide_slice Try.underlying22 (hval 0 22 v0 rfl rfl)
  have k0 := h0
  have lt0 : ∀ x ∈ p0, x.block < W.heap.size := by obtain ⟨m, hm⟩ := k0; exact DataW.trod_lt m _ _ _ hm
  obtain ⟨fuel0, hf0⟩ := h0
  simp only [Value.cells] at hf0
  obtain ⟨e0, w0⟩ := (Sh.read _).1 _ _ _ _ has22 hf0
  clear hA0 hval0
  refine (walk a0 len0 cap0 e0 W w0).mono fun e W' ⟨he, bel⟩ => ?_
  subst he
  exact ⟨_, rfl, _, _, _, [], _, [], hW', trodAll_mk1 (shut_bool Try.underlying4 _), (trodAll_cons_mk (Below.trod laidOut (by kernel_rfl) (of_decide_eq_true (by kernel_rfl)) k0 bel lt0) trodAll_mk0), rfl, bel.frame _, fun h => by cases h⟩

theorem over : Rows.wireBytesRow.holds Try.pinned (OpenSpec.ofChange Rows.wireBytesSpec) :=
  OpenClaim.holds_of_wide 3 Try.f3 rfl rfl rfl rfl rfl rfl rfl ⟨rfl, rfl, rfl, rfl, rfl⟩ rfl rfl rfl rfl rfl (by kernel_rfl) Try.func3 (by kernel_rfl)
    (of_decide_eq_true (by kernel_rfl)) (by unfold Func.isWrapper; first | (rw [if_pos (by decide +kernel)]; kernel_rfl) | (rw [if_neg (by decide +kernel)]; exact ⟨rfl, rfl⟩))
    (fun os started H enc _ => lifted os started H enc)

theorem proved : Rows.WireBytesSaid := over
end Go.Proofs.Ytaoapconbljkhaa.wireBytes

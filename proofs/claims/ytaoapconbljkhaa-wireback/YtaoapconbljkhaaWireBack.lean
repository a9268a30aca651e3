/-
  events are read of their bytes, with what counts of them alone: of up to 300 (WireBack is true of every input).
-/
import Derived.Test.YtaoapconbljkhaaRows
import Derived.WalkKit
import Derived.Below
import Derived.ProofKit
import Derived.OpenShut
import Derived.ShutString
import Derived.ChangeOld
import Derived.Test.YtaoapconbljkhaaShapes
import Derived.Test.YtaoapconbljkhaaWMore2
import Derived.Test.YtaoapconbljkhaaWMore
namespace Go.Proofs.Ytaoapconbljkhaa.wireBack
open Go.ChangeShapes Go.WideShapes Go.ChangeAt Go.RowKit
set_option linter.unusedVariables false

theorem own : ownKnob Try.prog.godebug = none := by kernel_rfl
theorem laidOut : laidOutB Try.prog = true := by kernel_rfl
theorem cells3 : Try.prog.cellsOf 3 = 1 := by kernel_rfl
theorem cells4 : Try.prog.cellsOf 4 = 1 := by kernel_rfl
theorem cells22 : Try.prog.cellsOf 22 = 1 := by kernel_rfl
theorem cells24 : Try.prog.cellsOf 24 = 1 := by kernel_rfl
theorem cells25 : Try.prog.cellsOf 25 = 1 := by kernel_rfl
theorem cells26 : Try.prog.cellsOf 26 = 1 := by kernel_rfl
theorem cells27 : Try.prog.cellsOf 27 = 1 := by kernel_rfl
theorem cells29 : Try.prog.cellsOf 29 = 5 := by kernel_rfl
theorem cells31 : Try.prog.cellsOf 31 = 2 := by kernel_rfl
theorem cells32 : Try.prog.cellsOf 32 = 1 := by kernel_rfl
theorem cells34 : Try.prog.cellsOf 34 = 7 := by kernel_rfl
theorem cells36 : Try.prog.cellsOf 36 = 14 := by kernel_rfl
theorem cells38 : Try.prog.cellsOf 38 = 28 := by kernel_rfl
theorem has24 : Sh.Has Try.prog (.int .i64) (.inl 24) := Try.underlying24
theorem has3 : Sh.Has Try.prog (.int .i64) (.inl 3) := Try.underlying3
theorem has25 : Sh.Has Try.prog (.int .u64) (.inl 25) := Try.underlying25
theorem has31 : Sh.Has Try.prog (.st (.pair (.int .i64) (.pair (.int .u64) .unit))) (.inl 31) := Sh.has_st Try.underlying31 (by kernel_rfl) (Sh.has_pair rfl (by kernel_rfl) has3 (Sh.has_pair rfl (by kernel_rfl) has25 Sh.has_unit))
theorem has32 : Sh.Has Try.prog (.slice (.int .i64)) (.inl 32) := Sh.has_slice Try.underlying32 (by kernel_rfl) (by decide) has3
theorem has34 : Sh.Has Try.prog (.st (.pair (.int .i64) (.pair (.int .u64) (.pair (.st (.pair (.int .i64) (.pair (.int .u64) .unit))) (.pair (.st (.pair (.int .i64) (.pair (.int .u64) .unit))) (.pair (.slice (.int .i64)) .unit)))))) (.inl 34) := Sh.has_st Try.underlying34 (by kernel_rfl) (Sh.has_pair rfl (by kernel_rfl) has3 (Sh.has_pair rfl (by kernel_rfl) has25 (Sh.has_pair rfl (by kernel_rfl) has31 (Sh.has_pair rfl (by kernel_rfl) has31 (Sh.has_pair rfl (by kernel_rfl) has32 Sh.has_unit)))))
theorem has26 : Sh.Has Try.prog (.slice (.st (.pair (.int .i64) (.pair (.int .u64) (.pair (.st (.pair (.int .i64) (.pair (.int .u64) .unit))) (.pair (.st (.pair (.int .i64) (.pair (.int .u64) .unit))) (.pair (.slice (.int .i64)) .unit))))))) (.inl 26) := Sh.has_slice Try.underlying26 (by kernel_rfl) (by decide) has34
theorem has36 : Sh.Has Try.prog (.st (.pair (.st (.pair (.int .i64) (.pair (.int .u64) (.pair (.st (.pair (.int .i64) (.pair (.int .u64) .unit))) (.pair (.st (.pair (.int .i64) (.pair (.int .u64) .unit))) (.pair (.slice (.int .i64)) .unit)))))) (.pair (.st (.pair (.int .i64) (.pair (.int .u64) (.pair (.st (.pair (.int .i64) (.pair (.int .u64) .unit))) (.pair (.st (.pair (.int .i64) (.pair (.int .u64) .unit))) (.pair (.slice (.int .i64)) .unit)))))) .unit))) (.inl 36) := Sh.has_st Try.underlying36 (by kernel_rfl) (Sh.has_pair rfl (by kernel_rfl) has34 (Sh.has_pair rfl (by kernel_rfl) has34 Sh.has_unit))
theorem has27 : Sh.Has Try.prog (.slice (.st (.pair (.st (.pair (.int .i64) (.pair (.int .u64) (.pair (.st (.pair (.int .i64) (.pair (.int .u64) .unit))) (.pair (.st (.pair (.int .i64) (.pair (.int .u64) .unit))) (.pair (.slice (.int .i64)) .unit)))))) (.pair (.st (.pair (.int .i64) (.pair (.int .u64) (.pair (.st (.pair (.int .i64) (.pair (.int .u64) .unit))) (.pair (.st (.pair (.int .i64) (.pair (.int .u64) .unit))) (.pair (.slice (.int .i64)) .unit)))))) .unit)))) (.inl 27) := Sh.has_slice Try.underlying27 (by kernel_rfl) (by decide) has36
theorem has29 : Sh.Has Try.prog (.st (.pair (.int .u64) (.pair (.int .u64) (.pair (.int .i64) (.pair (.slice (.st (.pair (.int .i64) (.pair (.int .u64) (.pair (.st (.pair (.int .i64) (.pair (.int .u64) .unit))) (.pair (.st (.pair (.int .i64) (.pair (.int .u64) .unit))) (.pair (.slice (.int .i64)) .unit))))))) (.pair (.slice (.st (.pair (.st (.pair (.int .i64) (.pair (.int .u64) (.pair (.st (.pair (.int .i64) (.pair (.int .u64) .unit))) (.pair (.st (.pair (.int .i64) (.pair (.int .u64) .unit))) (.pair (.slice (.int .i64)) .unit)))))) (.pair (.st (.pair (.int .i64) (.pair (.int .u64) (.pair (.st (.pair (.int .i64) (.pair (.int .u64) .unit))) (.pair (.st (.pair (.int .i64) (.pair (.int .u64) .unit))) (.pair (.slice (.int .i64)) .unit)))))) .unit)))) .unit)))))) (.inl 29) := Sh.has_st Try.underlying29 (by kernel_rfl) (Sh.has_pair rfl (by kernel_rfl) has25 (Sh.has_pair rfl (by kernel_rfl) has25 (Sh.has_pair rfl (by kernel_rfl) has3 (Sh.has_pair rfl (by kernel_rfl) has26 (Sh.has_pair rfl (by kernel_rfl) has27 Sh.has_unit)))))
theorem has38 : Sh.Has Try.prog (.st (.pair (.int .i64) (.pair (.int .i64) (.pair (.st (.pair (.int .u64) (.pair (.int .u64) (.pair (.int .i64) (.pair (.slice (.st (.pair (.int .i64) (.pair (.int .u64) (.pair (.st (.pair (.int .i64) (.pair (.int .u64) .unit))) (.pair (.st (.pair (.int .i64) (.pair (.int .u64) .unit))) (.pair (.slice (.int .i64)) .unit))))))) (.pair (.slice (.st (.pair (.st (.pair (.int .i64) (.pair (.int .u64) (.pair (.st (.pair (.int .i64) (.pair (.int .u64) .unit))) (.pair (.st (.pair (.int .i64) (.pair (.int .u64) .unit))) (.pair (.slice (.int .i64)) .unit)))))) (.pair (.st (.pair (.int .i64) (.pair (.int .u64) (.pair (.st (.pair (.int .i64) (.pair (.int .u64) .unit))) (.pair (.st (.pair (.int .i64) (.pair (.int .u64) .unit))) (.pair (.slice (.int .i64)) .unit)))))) .unit)))) .unit)))))) (.pair (.st (.pair (.int .i64) (.pair (.int .u64) (.pair (.st (.pair (.int .i64) (.pair (.int .u64) .unit))) (.pair (.st (.pair (.int .i64) (.pair (.int .u64) .unit))) (.pair (.slice (.int .i64)) .unit)))))) (.pair (.st (.pair (.st (.pair (.int .i64) (.pair (.int .u64) (.pair (.st (.pair (.int .i64) (.pair (.int .u64) .unit))) (.pair (.st (.pair (.int .i64) (.pair (.int .u64) .unit))) (.pair (.slice (.int .i64)) .unit)))))) (.pair (.st (.pair (.int .i64) (.pair (.int .u64) (.pair (.st (.pair (.int .i64) (.pair (.int .u64) .unit))) (.pair (.st (.pair (.int .i64) (.pair (.int .u64) .unit))) (.pair (.slice (.int .i64)) .unit)))))) .unit))) .unit)))))) (.inl 38) := Sh.has_st Try.underlying38 (by kernel_rfl) (Sh.has_pair rfl (by kernel_rfl) has24 (Sh.has_pair rfl (by kernel_rfl) has3 (Sh.has_pair rfl (by kernel_rfl) has29 (Sh.has_pair rfl (by kernel_rfl) has34 (Sh.has_pair rfl (by kernel_rfl) has36 Sh.has_unit)))))
theorem has22 : Sh.Has Try.prog (.slice (.st (.pair (.int .i64) (.pair (.int .i64) (.pair (.st (.pair (.int .u64) (.pair (.int .u64) (.pair (.int .i64) (.pair (.slice (.st (.pair (.int .i64) (.pair (.int .u64) (.pair (.st (.pair (.int .i64) (.pair (.int .u64) .unit))) (.pair (.st (.pair (.int .i64) (.pair (.int .u64) .unit))) (.pair (.slice (.int .i64)) .unit))))))) (.pair (.slice (.st (.pair (.st (.pair (.int .i64) (.pair (.int .u64) (.pair (.st (.pair (.int .i64) (.pair (.int .u64) .unit))) (.pair (.st (.pair (.int .i64) (.pair (.int .u64) .unit))) (.pair (.slice (.int .i64)) .unit)))))) (.pair (.st (.pair (.int .i64) (.pair (.int .u64) (.pair (.st (.pair (.int .i64) (.pair (.int .u64) .unit))) (.pair (.st (.pair (.int .i64) (.pair (.int .u64) .unit))) (.pair (.slice (.int .i64)) .unit)))))) .unit)))) .unit)))))) (.pair (.st (.pair (.int .i64) (.pair (.int .u64) (.pair (.st (.pair (.int .i64) (.pair (.int .u64) .unit))) (.pair (.st (.pair (.int .i64) (.pair (.int .u64) .unit))) (.pair (.slice (.int .i64)) .unit)))))) (.pair (.st (.pair (.st (.pair (.int .i64) (.pair (.int .u64) (.pair (.st (.pair (.int .i64) (.pair (.int .u64) .unit))) (.pair (.st (.pair (.int .i64) (.pair (.int .u64) .unit))) (.pair (.slice (.int .i64)) .unit)))))) (.pair (.st (.pair (.int .i64) (.pair (.int .u64) (.pair (.st (.pair (.int .i64) (.pair (.int .u64) .unit))) (.pair (.st (.pair (.int .i64) (.pair (.int .u64) .unit))) (.pair (.slice (.int .i64)) .unit)))))) .unit))) .unit))))))) (.inl 22) := Sh.has_slice Try.underlying22 (by kernel_rfl) (by decide) has38
theorem vote_len {w : World} {v : Vt} {a : Option Addr} {l c : Nat} (h : VoteC w (vtCs v a l c) v) : v.who.length = l := by
  obtain ⟨_, ao, l', c', e, hr⟩ := h
  simp only [List.cons.injEq, Value.slice.injEq, and_true, true_and] at e
  rw [hr.len, e.2.1]

set_option maxHeartbeats 16000000 in
set_option maxRecDepth 100000 in
theorem walk (a0 : Option Addr) (len0 cap0 : Nat) (e0 : Sh.Val (.slice (.st (.pair (.int .i64) (.pair (.int .i64) (.pair (.st (.pair (.int .u64) (.pair (.int .u64) (.pair (.int .i64) (.pair (.slice (.st (.pair (.int .i64) (.pair (.int .u64) (.pair (.st (.pair (.int .i64) (.pair (.int .u64) .unit))) (.pair (.st (.pair (.int .i64) (.pair (.int .u64) .unit))) (.pair (.slice (.int .i64)) .unit))))))) (.pair (.slice (.st (.pair (.st (.pair (.int .i64) (.pair (.int .u64) (.pair (.st (.pair (.int .i64) (.pair (.int .u64) .unit))) (.pair (.st (.pair (.int .i64) (.pair (.int .u64) .unit))) (.pair (.slice (.int .i64)) .unit)))))) (.pair (.st (.pair (.int .i64) (.pair (.int .u64) (.pair (.st (.pair (.int .i64) (.pair (.int .u64) .unit))) (.pair (.st (.pair (.int .i64) (.pair (.int .u64) .unit))) (.pair (.slice (.int .i64)) .unit)))))) .unit)))) .unit)))))) (.pair (.st (.pair (.int .i64) (.pair (.int .u64) (.pair (.st (.pair (.int .i64) (.pair (.int .u64) .unit))) (.pair (.st (.pair (.int .i64) (.pair (.int .u64) .unit))) (.pair (.slice (.int .i64)) .unit)))))) (.pair (.st (.pair (.st (.pair (.int .i64) (.pair (.int .u64) (.pair (.st (.pair (.int .i64) (.pair (.int .u64) .unit))) (.pair (.st (.pair (.int .i64) (.pair (.int .u64) .unit))) (.pair (.slice (.int .i64)) .unit)))))) (.pair (.st (.pair (.int .i64) (.pair (.int .u64) (.pair (.st (.pair (.int .i64) (.pair (.int .u64) .unit))) (.pair (.st (.pair (.int .i64) (.pair (.int .u64) .unit))) (.pair (.slice (.int .i64)) .unit)))))) .unit))) .unit)))))))) (w : World) (w0 : Sh.In (.slice (.st (.pair (.int .i64) (.pair (.int .i64) (.pair (.st (.pair (.int .u64) (.pair (.int .u64) (.pair (.int .i64) (.pair (.slice (.st (.pair (.int .i64) (.pair (.int .u64) (.pair (.st (.pair (.int .i64) (.pair (.int .u64) .unit))) (.pair (.st (.pair (.int .i64) (.pair (.int .u64) .unit))) (.pair (.slice (.int .i64)) .unit))))))) (.pair (.slice (.st (.pair (.st (.pair (.int .i64) (.pair (.int .u64) (.pair (.st (.pair (.int .i64) (.pair (.int .u64) .unit))) (.pair (.st (.pair (.int .i64) (.pair (.int .u64) .unit))) (.pair (.slice (.int .i64)) .unit)))))) (.pair (.st (.pair (.int .i64) (.pair (.int .u64) (.pair (.st (.pair (.int .i64) (.pair (.int .u64) .unit))) (.pair (.st (.pair (.int .i64) (.pair (.int .u64) .unit))) (.pair (.slice (.int .i64)) .unit)))))) .unit)))) .unit)))))) (.pair (.st (.pair (.int .i64) (.pair (.int .u64) (.pair (.st (.pair (.int .i64) (.pair (.int .u64) .unit))) (.pair (.st (.pair (.int .i64) (.pair (.int .u64) .unit))) (.pair (.slice (.int .i64)) .unit)))))) (.pair (.st (.pair (.st (.pair (.int .i64) (.pair (.int .u64) (.pair (.st (.pair (.int .i64) (.pair (.int .u64) .unit))) (.pair (.st (.pair (.int .i64) (.pair (.int .u64) .unit))) (.pair (.slice (.int .i64)) .unit)))))) (.pair (.st (.pair (.int .i64) (.pair (.int .u64) (.pair (.st (.pair (.int .i64) (.pair (.int .u64) .unit))) (.pair (.st (.pair (.int .i64) (.pair (.int .u64) .unit))) (.pair (.slice (.int .i64)) .unit)))))) .unit))) .unit))))))) w [.slice a0 len0 cap0] e0) :
    Calls Try.prog 4 #[.slice a0 len0 cap0] w fun e w' => e = .returned (.bool true) ∧ Below w.heap.size w w' := by
  have hE := eventsC_of w0
  clear w0
  generalize List.map toEv e0 = es at hE
  clear e0
  have hlen := hE.len
  have hcap := hE.cap
  unfold maxLen at hcap
  have H := hide hE
  clear hE
  go_enter Try.func4, Try.ntmps4
  go_wp2_with fail
  refine (awake_any _).mono ?_
  rintro r w1 ⟨rfl, hb1⟩
  have HB1 := hide hb1
  clear hb1
  by_cases h300 : (300 : Int) < (len0 : Int)
  · go_wp2
    go_ret
    exact ⟨rfl, HB1.out⟩
  go_wp2
  go_loopw [3, 20] (fun g i wr => ∃ (k m : Nat) (ao : Option Addr) (d : Nat), k ≤ len0 ∧ i = .int .i64 k ∧ g = .slice ao m d ∧ m ≤ k ∧ Hid (((es.take k).filter evB).length = m ∧ OwnRows (EventC w) 38 28 w.heap.size wr (.slice ao m d) ((es.take k).filter evB) ∧ Below w.heap.size w wr)) (fun _ i _ => len0 - (intOf i).toNat)
  case atStart => exact ⟨0, 0, none, 0, Nat.zero_le _, rfl, rfl, Nat.le_refl _, hide ⟨rfl, OwnRows.none _ _ _ _ _, HB1.out⟩⟩
  case round =>
    obtain ⟨k, m, ao, d, hk, rfl, rfl, hmk, hI⟩ := hrel
    by_cases hlt : k < len0
    · obtain ⟨b, off, cs, rfl, hbs, hcl, hcc, hE⟩ := H.out.row k (by omega)
      have hfl : (es.take (k + 1)).filter evB = (es.take k).filter evB ++ (if evB es[k] = true then [es[k]] else []) := by
        rw [List.take_succ_eq_append_getElem (by omega), List.filter_append]
        cases h : evB es[k] <;> simp [h]
      obtain ⟨e, hge⟩ : ∃ v, Hid (es[k] = v) := ⟨_, hide rfl⟩
      rw [hge.out] at hE hfl
      have ld1 : (Instr.loadAt 38 (.pointer (some ⟨b, off + k * 28, none⟩))).run Try.prog wr = .ok (.agg cs.toArray) wr :=
        load_mid Try.underlying38 infoEv hcl fun j hj => by
          have := (hI.out.2.2.cell (p := ⟨b, off + (k * 28 + j), none⟩) hbs).trans (hcc j hj)
          rwa [← Nat.add_assoc] at this
      have st1 : ∀ Z : Array Value, Z.size = 28 → (Instr.storeAt 38 (.pointer (some ⟨wr.heap.size, 0, none⟩)) (.agg cs.toArray)).run Try.prog (wr.alloc (.cells Z 38)) = .ok () (wr.alloc (.cells cs.toArray 38)) :=
        fun Z hZ => store_new infoEv hcl hZ hE.one.1 rfl
      have ld2 : (Instr.loadAt 38 (.pointer (some ⟨wr.heap.size, 0, none⟩))).run Try.prog (wr.alloc (.cells cs.toArray 38)) = .ok (.agg cs.toArray) (wr.alloc (.cells cs.toArray 38)) :=
        load_new Try.underlying38 infoEv hcl rfl
      have HE0 := hide hE
      have HCL := hide hcl
      have HFL := hide hfl
      have L1 := hide ld1
      have S1 := hide st1
      have L2 := hide ld2
      clear hE hfl hcc hcl ld1 st1 ld2
      go_wp2_with (first
        | (refine wpList_load_at 38 (.tmp 22) rfl rfl (.pointer (some ⟨b, off + k * 28, none⟩)) rfl (.agg cs.toArray) L1.out ?_)
        | (refine wpList_store_at 38 (.tmp 5) (.tmp 23) rfl rfl (.pointer (some ⟨wr.heap.size, 0, none⟩)) (.agg cs.toArray) rfl rfl _ (S1.out _ rfl) ?_)
        | (refine wpList_load_at 38 (.tmp 5) rfl rfl (.pointer (some ⟨wr.heap.size, 0, none⟩)) rfl (.agg cs.toArray) L2.out ?_))
      have hwx := hI.out.2.2.alloc hI.out.2.2.size (.cells cs.toArray 38)
      refine (lmay_any e _ _ (HE0.out.below hwx)).mono ?_
      rintro r wd ⟨rfl, hb⟩
      have hrd : Below wr.heap.size wr wd := (below_alloc wr _).trans (hb.mono (by simp))
      have hpvd : wd.heap[wr.heap.size]? = some (.cells cs.toArray 38 (0, 0)) := (hb.block _ (by simp)).trans (heap_alloc_new _ _)
      have LD : Hid ((Instr.loadAt 38 (.pointer (some ⟨wr.heap.size, 0, none⟩))).run Try.prog wd = .ok (.agg cs.toArray) wd) := load_obj Try.underlying38 infoEv (by rw [List.size_toArray]; exact HCL.out) hpvd
      have HRD := hide hrd
      have HWD := hide (hI.out.2.2.trans (hrd.mono hI.out.2.2.size))
      clear hb hrd hpvd hwx L1 S1 L2
      obtain ⟨q, hq⟩ : ∃ q, Hid (evB e = q) := ⟨_, rfl⟩
      rw [hq.out] at HFL ⊢
      cases q
      · rw [if_neg (by simp), List.append_nil] at HFL
        go_wp2
        go_roundw
        case rel => exact ⟨k + 1, m, ao, d, by omega, by go_num, rfl, by omega, hide (by rw [HFL.out]; exact ⟨hI.out.1, hI.out.2.1.below HRD.out fun cs v h => h, HWD.out⟩)⟩
        case measure => simp [intOf]; omega
      · rw [if_pos rfl] at HFL
        obtain ⟨i0, hi, hz0, hz1, hz2⟩ := info_parts infoE
        have one : Hid (∀ (cs : List Value) (v : Ev), EventC w cs v → ∀ u ∈ cs, u.oneCell' = true) := fun cs v h => h.one.1
        have hO := hide (hI.out.2.1.below (HRD.out.trans ((below_alloc wd (.cells cs.toArray 38)).mono HRD.out.size)) fun cs v h => h)
        have hR := hide (RowsIn.lit (R := EventC w) wd wd.heap.size cs 38 28 e rfl HCL.out HE0.out)
        have hsd := HWD.out.size
        go_wp2_with (first
          | (refine wpList_load_at 38 (.tmp 5) rfl rfl (.pointer (some ⟨wr.heap.size, 0, none⟩)) rfl (.agg cs.toArray) LD.out ?_)
          | (refine wpList_build_one rfl 22 38 (.tmp 27) rfl cs 28 rfl HCL.out (by omega) i0 _ Try.underlying22 hi hz0 hz1 ?_)
          | (at_builtin; refine wpList_append_structs (R := EventC w) _ rfl (.tmp 26) (.tmp 28) 22 rfl w.heap.size 38 i0 (.agg (tickCs 0).toArray) 28 304 Try.underlying22 hi hz0 hz1 hz2 rfl (by omega) one.out (.slice ao m d) m (List.filter evB (List.take k es)) rfl hO.out hI.out.1 (some ⟨wd.heap.size, 0, none⟩) 1 1 [e] rfl hR.out ?c1 ?c2 ?c3 ?_))
        case c1 => unfold maxLen; omega
        case c2 => omega
        case c3 => simp; omega
        intro ao5 d5 we hown5 hg5
        rw [← HFL.out] at hown5
        have hlt5 : ∀ j, (Value.slice ao m d).ownBlock = some j → w.heap.size ≤ j := fun j hj => by obtain ⟨css, _, ho⟩ := hI.out.2.1; exact (ho.lt j hj).1
        have HWE := hide ((HWD.out.alloc hsd (.cells cs.toArray 38)).grown hg5 (by simp; omega) hlt5)
        have HO5 := hide hown5
        have hlen5 : Hid ((List.filter evB (List.take (k + 1) es)).length = m + 1) := show _ = _ by rw [HFL.out, List.length_append, hI.out.1]; rfl
        clear hown5 hg5 hlt5 hO hR LD
        go_wp2
        go_roundw
        case rel => exact ⟨k + 1, m + 1, ao5, d5, by omega, by go_num, rfl, by omega, hide ⟨hlen5.out, HO5.out, HWE.out⟩⟩
        case measure => simp [intOf]; omega
    · have : k = len0 := by omega
      subst this
      rw [List.take_of_length_le (by omega)] at hI
      obtain ⟨gs, hgs⟩ : ∃ x, Hid (es.filter evB = x) := ⟨_, rfl⟩
      rw [hgs.out] at hI
      have hgb : ∀ e ∈ gs, evB e = true := fun e he => by rw [← hgs.out] at he; exact (List.mem_filter.1 he).2
      have hgl : gs.length = m := hI.out.1
      obtain ⟨ag, dg, eg, RG⟩ := hI.out.2.1.rows (by omega)
      rw [hgl] at eg RG
      cases eg
      have hbw := hI.out.2.2
      have hok : ∀ e ∈ gs, evB e = true ∧ e.Wf := fun e he => by
        obtain ⟨cs, hc⟩ := rows_mem RG e he
        exact ⟨hgb e he, hc.wf⟩
      have hns : ∀ e ∈ gs, ∀ n ∈ evNs e, IsU64 n := fun e he => by
        obtain ⟨cs, hc⟩ := rows_mem RG e he
        exact evNs_b e hc (hgb e he)
      have HB8 := hide (bytes8_of hok hns)
      have HRG := hide (RG.mono (Below.refl _ _) fun cs v h => h.below hbw)
      have HGB := hide hgb
      have HBW := hide hbw
      have HNS := hide hns
      have hdec : Hid (rDec (bytesOf gs) 4096 [] ⟨0, false⟩ = (gs.map bareE, (bytesOf gs).length, false)) := show _ = _ by
        have := dec_pre (bs := bytesOf gs) gs [] 4096 0 rfl (Nat.zero_le _) (by omega) hok
        rw [this, List.nil_append]
      have HGL := hide hgl
      clear RG hbw hI hok hgb hns hgl
      go_wp2_with fail
      refine (lbytes_any gs _ _ _ _ HRG.out HGB.out (by omega)).mono ?_
      rintro r v2 ⟨ao2, n2, d2, rfl, hn2, _, own2, hb⟩
      obtain ⟨ax, dx, ex, R2⟩ := RowIn.ofOwned own2
      cases ex
      have HB2 := hide (HBW.out.trans (hb.mono HBW.out.size))
      have HR2 := hide R2
      have HRG2 := hide (HRG.out.mono hb fun cs v h => h.below hb)
      have HN2 := hide hn2
      clear hb R2 own2 hn2
      go_wp2_with fail
      refine (dec_any (bytesOf gs) _ _ _ _ HR2.out HB8.out).mono ?_
      rintro r v3 ⟨ao3, n3, d3, rfl, R3, hb⟩
      rw [hdec.out] at R3 ⊢
      dsimp only at R3 ⊢
      rw [← HN2.out]
      obtain rfl : n3 = m := R3.len.symm.trans (by rw [List.length_map, HGL.out])
      have HB3 := hide (HB2.out.trans (hb.mono HB2.out.size))
      have HR3 := hide R3
      have HRG3 := hide (HRG2.out.mono hb fun cs v h => h.below hb)
      have HR23 := hide (HR2.out.below hb)
      have hne : errV false = .nilIface := rfl
      rw [hne]
      clear hb R3 hne
      obtain ⟨s1, hs1⟩ : ∃ x, Hid (strOfNums (bytesOf gs) = x) := ⟨_, rfl⟩
      have hC : Hid (∀ w', Below v3.heap.size v3 w' → (convert 40 9 (.slice ao2 n2 d2)).run Try.prog w' = .ok (.string s1) w') := fun w' h => by
        rw [← hs1.out]
        exact conv_row (HR23.out.below h)
      have hdr : Below v3.heap.size v3 v3.drew := (Below.refl _ _).drew
      have hs3 := HB3.out.size
      have HBB : Hid (bytesOf (gs.map bareE) = bytesOf gs) := bare_bytes gs HGB.out
      have HXB : Hid (∀ e ∈ gs.map bareE, evB e = true) := fun e he => by
        obtain ⟨x, hx, rfl⟩ := List.mem_map.1 he
        exact bare_evB (HGB.out x hx)
      go_wp2_with fail
      refine wp_region_noPanic ?_
      refine wp_region_held_drew (S := fun w' => (convert 40 9 (.slice ao2 n2 d2)).run Try.prog w' = .ok (.string s1) w') (by kernel_rfl) (hC.out _ hdr) (fun hHeld => ?_)
      refine take_set (i := 0) (v := .nilIface) rfl rfl (by kernel_rfl) (by kernel_rfl) (by kernel_rfl) (fun _ _ _ h => h) (Or.inl ⟨by kernel_rfl, fun w' hSw => ?_⟩) hHeld ?_
      · go_simp
      simp only [List.set_cons_succ, List.set_cons_zero]
      refine take_set (i := 1) (v := .bool false) rfl rfl (by kernel_rfl) (by kernel_rfl) (by kernel_rfl) (fun _ _ _ h => h) (Or.inl ⟨by kernel_rfl, fun w' hSw => ?_⟩) hHeld ?_
      · go_simp
      simp only [List.set_cons_succ, List.set_cons_zero]
      refine take_set (i := 2) (v := .bool false) rfl rfl (by kernel_rfl) (by kernel_rfl) (by kernel_rfl) (fun _ _ _ h => h) (Or.inl ⟨by kernel_rfl, fun w' hSw => ?_⟩) hHeld ?_
      · go_simp
      simp only [List.set_cons_succ, List.set_cons_zero]
      refine take_set (i := 3) (v := .int .i64 (n2 : Int)) rfl rfl (by kernel_rfl) (by kernel_rfl) (by kernel_rfl) (fun _ _ _ h => h) (Or.inl ⟨by kernel_rfl, fun w' hSw => ?_⟩) hHeld ?_
      · go_simp
      simp only [List.set_cons_succ, List.set_cons_zero]
      refine take_set (i := 4) (v := .slice ao2 n2 d2) rfl rfl (by kernel_rfl) (by kernel_rfl) (by kernel_rfl) (fun _ _ _ h => h) (Or.inl ⟨by kernel_rfl, fun w' hSw => ?_⟩) hHeld ?_
      · go_simp
      simp only [List.set_cons_succ, List.set_cons_zero]
      refine take_set (i := 5) (v := .int .i64 (n2 : Int)) rfl rfl (by kernel_rfl) (by kernel_rfl) (by kernel_rfl) (fun _ _ _ h => h) (Or.inl ⟨by kernel_rfl, fun w' hSw => ?_⟩) hHeld ?_
      · go_simp
      simp only [List.set_cons_succ, List.set_cons_zero]
      refine take_set (i := 6) (v := .bool false) rfl rfl (by kernel_rfl) (by kernel_rfl) (by kernel_rfl) (fun _ _ _ h => h) (Or.inl ⟨by kernel_rfl, fun w' hSw => ?_⟩) hHeld ?_
      · go_simp
      simp only [List.set_cons_succ, List.set_cons_zero]
      refine take_set (i := 7) (v := .bool false) rfl rfl (by kernel_rfl) (by kernel_rfl) (by kernel_rfl) (fun _ _ _ h => h) (Or.inl ⟨by kernel_rfl, fun w' hSw => ?_⟩) hHeld ?_
      · go_simp
      simp only [List.set_cons_succ, List.set_cons_zero]
      refine take_set (i := 8) (v := .bool false) rfl rfl (by kernel_rfl) (by kernel_rfl) (by kernel_rfl) (fun _ _ _ h => h) (Or.inl ⟨by kernel_rfl, fun w' hSw => ?_⟩) hHeld ?_
      · go_simp
      simp only [List.set_cons_succ, List.set_cons_zero]
      refine take_set (i := 9) (v := .slice ao3 n3 d3) rfl rfl (by kernel_rfl) (by kernel_rfl) (by kernel_rfl) (fun _ _ _ h => h) (Or.inl ⟨by kernel_rfl, fun w' hSw => ?_⟩) hHeld ?_
      · go_simp
      simp only [List.set_cons_succ, List.set_cons_zero]
      refine take_set (i := 10) (v := .int .i64 (n3 : Int)) rfl rfl (by kernel_rfl) (by kernel_rfl) (by kernel_rfl) (fun _ _ _ h => h) (Or.inl ⟨by kernel_rfl, fun w' hSw => ?_⟩) hHeld ?_
      · go_simp
      simp only [List.set_cons_succ, List.set_cons_zero]
      refine take_set (i := 11) (v := .slice ao n3 d) rfl rfl (by kernel_rfl) (by kernel_rfl) (by kernel_rfl) (fun _ _ _ h => h) (Or.inl ⟨by kernel_rfl, fun w' hSw => ?_⟩) hHeld ?_
      · go_simp
      simp only [List.set_cons_succ, List.set_cons_zero]
      refine take_set (i := 12) (v := .int .i64 (n3 : Int)) rfl rfl (by kernel_rfl) (by kernel_rfl) (by kernel_rfl) (fun _ _ _ h => h) (Or.inl ⟨by kernel_rfl, fun w' hSw => ?_⟩) hHeld ?_
      · go_simp
      simp only [List.set_cons_succ, List.set_cons_zero]
      refine take_set (i := 13) (v := .bool false) rfl rfl (by kernel_rfl) (by kernel_rfl) (by kernel_rfl) (fun _ _ _ h => h) (Or.inl ⟨by kernel_rfl, fun w' hSw => ?_⟩) hHeld ?_
      · go_simp
      simp only [List.set_cons_succ, List.set_cons_zero]
      refine take_set (i := 14) (v := .bool false) rfl rfl (by kernel_rfl) (by kernel_rfl) (by kernel_rfl) (fun _ _ _ h => h) (Or.inl ⟨by kernel_rfl, fun w' hSw => ?_⟩) hHeld ?_
      · go_simp
      simp only [List.set_cons_succ, List.set_cons_zero]
      refine take_set (i := 15) (v := .bool false) rfl rfl (by kernel_rfl) (by kernel_rfl) (by kernel_rfl) (fun _ _ _ h => h) (Or.inl ⟨by kernel_rfl, fun w' hSw => ?_⟩) hHeld ?_
      · go_simp
      simp only [List.set_cons_succ, List.set_cons_zero]
      refine take_set (i := 16) (v := .slice ao3 n3 d3) rfl rfl (by kernel_rfl) (by kernel_rfl) (by kernel_rfl) (fun _ _ _ h => h) (Or.inl ⟨by kernel_rfl, fun w' hSw => ?_⟩) hHeld ?_
      · go_simp
      simp only [List.set_cons_succ, List.set_cons_zero]
      refine take_set (i := 19) (v := .slice ao2 n2 d2) rfl rfl (by kernel_rfl) (by kernel_rfl) (by kernel_rfl) (fun _ _ _ h => h) (Or.inl ⟨by kernel_rfl, fun w' hSw => ?_⟩) hHeld ?_
      · go_simp
      simp only [List.set_cons_succ, List.set_cons_zero]
      refine take_set (i := 20) (v := .string s1) rfl rfl (by kernel_rfl) (by kernel_rfl) (by kernel_rfl) (fun _ _ _ h => h) (Or.inl ⟨by kernel_rfl, fun w' hSw => ?_⟩) hHeld ?_
      · go_simp
      simp only [List.set_cons_succ, List.set_cons_zero]
      refine wpAnyH_ready (rs := [17]) (by kernel_rfl) (by simp) ?_
      refine AllReadyH.cons (o := _) rfl (fun K hK => ?_) AllReadyH.nil
      go_simp
      refine (lbytes_any (gs.map bareE) _ _ _ v3.drew (HR3.out.mono hdr fun cs v h => h.below hdr) HXB.out (by omega)).mono ?_
      rintro r v5 ⟨ao5, n5, d5, rfl, hn5, _, own5, hb⟩
      obtain ⟨ax, dx, ex, R5⟩ := RowIn.ofOwned own5
      cases ex
      have cv5 := conv_row R5
      rw [HBB.out, hs1.out] at cv5
      have hb5 : Below v3.heap.size v3 v5 := hdr.trans hb
      have HB5 := hide hb5
      have HC5 := hide (hC.out v5 hb5)
      clear own5 R5 hb hb5 hn5
      refine hK.out _ _ (HC5.out) (fun hHeld => ?_)
      clear hK K
      refine wpAnyH_ready (rs := [18]) (by kernel_rfl) (by simp) ?_
      refine AllReadyH.cons (o := _) rfl (fun K hK => ?_) AllReadyH.nil
      go_simp
      refine hK.out _ _ (HC5.out) (fun hHeld => ?_)
      clear hK K
      refine take_set (i := 21) (v := .bool false) rfl rfl (by kernel_rfl) (by kernel_rfl) (by kernel_rfl) (fun _ _ _ h => h) (Or.inl ⟨by kernel_rfl, fun w' hSw => ?_⟩) hHeld ?_
      · go_simp
      simp only [List.set_cons_succ, List.set_cons_zero]
      refine take_set (i := 22) (v := .bool false) rfl rfl (by kernel_rfl) (by kernel_rfl) (by kernel_rfl) (fun _ _ _ h => h) (Or.inl ⟨by kernel_rfl, fun w' hSw => ?_⟩) hHeld ?_
      · go_simp
      simp only [List.set_cons_succ, List.set_cons_zero]
      refine wpAnyH_done (by kernel_rfl) ?_ _
      refine NoPanic.normal ?_
      have HRX := hide (HR3.out.mono HB5.out (R' := EventC v5) fun cs v h => h.below HB5.out)
      have HRY := hide (HRG3.out.mono HB5.out (R' := EventC v5) fun cs v h => h.below HB5.out)
      have HBF := hide (HB3.out.trans (HB5.out.mono hs3))
      clear cv5 hdr hs3
      go_wp2
      go_loopw [64] (fun i wr => ∃ j : Nat, j ≤ n3 ∧ i = .int .i64 j ∧ Hid (Below v5.heap.size v5 wr)) (fun i _ => n3 - (intOf i).toNat)
      case atStart => exact ⟨0, Nat.zero_le _, rfl, hide (Below.refl _ _)⟩
      case round =>
        obtain ⟨j, hj, rfl, hJ⟩ := hrel
        by_cases hlt : j < n3
        · have hjg : j < gs.length := by rw [HGL.out]; exact hlt
          have hjx : j < (gs.map bareE).length := by rw [List.length_map]; exact hjg
          obtain ⟨bx, ox, cx, rfl, hbx, hcxl, hcx, hex⟩ := (HRX.out.mono hJ.out (R' := EventC wr) fun cs v h => h.below hJ.out).row j hjx
          obtain ⟨be, oe, ce, rfl, hbe, hcel, hce, hee⟩ := (HRY.out.mono hJ.out (R' := EventC wr) fun cs v h => h.below hJ.out).row j hjg
          have hgx : (gs.map bareE)[j] = bareE gs[j] := by simp
          have hgok := HGB.out gs[j] (List.getElem_mem _)
          rw [hgx] at hex
          obtain ⟨e, hge⟩ : ∃ v, Hid (gs[j] = v) := ⟨_, hide rfl⟩
          rw [hge.out] at hex hee hgok
          have ld1 : (Instr.loadAt 38 (.pointer (some ⟨bx, ox + j * 28, none⟩))).run Try.prog wr = .ok (.agg cx.toArray) wr :=
            load_mid Try.underlying38 infoEv hcxl fun i hi => by
              have := hcx i hi
              rwa [← Nat.add_assoc] at this
          obtain ⟨wa, hwa⟩ : ∃ x, Hid (wr.alloc (.cells cx.toArray 38) = x) := ⟨_, rfl⟩
          have st1 : ∀ Z : Array Value, Z.size = 28 → (Instr.storeAt 38 (.pointer (some ⟨wr.heap.size, 0, none⟩)) (.agg cx.toArray)).run Try.prog (wr.alloc (.cells Z 38)) = .ok () wa :=
            fun Z hZ => by rw [← hwa.out]; exact store_new infoEv hcxl hZ hex.one.1 rfl
          have hba : Below wr.heap.size wr wa := by rw [← hwa.out]; exact below_alloc _ _
          have hxa : wa.heap[wr.heap.size]? = some (.cells cx.toArray 38 (0, 0)) := by rw [← hwa.out]; exact heap_alloc_new _ _
          have hsa : wr.heap.size < wa.heap.size := by rw [← hwa.out]; simp
          have ld2 : (Instr.loadAt 38 (.pointer (some ⟨be, oe + j * 28, none⟩))).run Try.prog wa = .ok (.agg ce.toArray) wa :=
            load_mid Try.underlying38 infoEv hcel fun i hi => by
              have := (hba.cell (p := ⟨be, oe + (j * 28 + i), none⟩) hbe).trans (hce i hi)
              rwa [← Nat.add_assoc] at this
          have L1 := hide ld1
          have L2 := hide ld2
          have S1 := hide st1
          have HEX := hide hex
          have HEE := hide (hee.below hba)
          have HXA := hide hxa
          have HBA := hide hba
          have HOK := hide hgok
          have HCX := hide hcxl
          clear ld1 ld2 st1 hex hee hxa hba hgok hcxl hcel hcx hce hgx hbx hbe
          go_wp2_with (first
            | (refine wpList_load_at 38 (.tmp 67) rfl rfl (.pointer (some ⟨bx, ox + j * 28, none⟩)) rfl (.agg cx.toArray) L1.out ?_)
            | (refine wpList_store_at 38 (.tmp 11) (.tmp 68) rfl rfl (.pointer (some ⟨wr.heap.size, 0, none⟩)) (.agg cx.toArray) rfl rfl _ (S1.out _ rfl) ?_)
            | (refine wpList_load_at 38 (.tmp 71) rfl rfl (.pointer (some ⟨be, oe + j * 28, none⟩)) rfl (.agg ce.toArray) L2.out ?_))
          refine (bare_any e _ _ HEE.out HOK.out).mono ?_
          rintro r wb ⟨cy, rfl, hcy, hb⟩
          have hcy := hcy.ext (filt_ext _ _ _)
          obtain ⟨wc, hwc⟩ : ∃ x, Hid (wb.alloc (.cells cy.toArray 38) = x) := ⟨_, rfl⟩
          have st2 : ∀ Z : Array Value, Z.size = 28 → (Instr.storeAt 38 (.pointer (some ⟨wb.heap.size, 0, none⟩)) (.agg cy.toArray)).run Try.prog (wb.alloc (.cells Z 38)) = .ok () wc :=
            fun Z hZ => by rw [← hwc.out]; exact store_new infoEv hcy.one.2 hZ hcy.one.1 rfl
          have hbc : Below wb.heap.size wb wc := by rw [← hwc.out]; exact below_alloc _ _
          have hbac : Below wa.heap.size wa wc := hb.trans (hbc.mono hb.size)
          have hxy : wc.heap[wb.heap.size]? = some (.cells cy.toArray 38 (0, 0)) := by rw [← hwc.out]; exact heap_alloc_new _ _
          have hxx : wc.heap[wr.heap.size]? = some (.cells cx.toArray 38 (0, 0)) := (hbac.block _ hsa).trans HXA.out
          have S2 := hide st2
          have HCY := hide (hcy.below hbc)
          have HCXX := hide (HEX.out.below (HBA.out.trans (hbac.mono HBA.out.size)))
          have HBC := hide (hJ.out.trans ((HBA.out.trans (hbac.mono HBA.out.size)).mono hJ.out.size))
          have hlx : wr.heap.size < wc.heap.size := Nat.lt_of_lt_of_le hsa hbac.size
          have hly : wb.heap.size < wc.heap.size := by rw [← hwc.out]; simp
          obtain ⟨hx, hhx⟩ : ∃ x, Hid (wr.heap.size = x) := ⟨_, rfl⟩
          obtain ⟨hy, hhy⟩ : ∃ x, Hid (wb.heap.size = x) := ⟨_, rfl⟩
          have HL2 : Hid (cx.length = 28 ∧ cy.length = 28) := ⟨HCX.out, hcy.one.2⟩
          clear st2 hcy hb hbc hbac L1 L2 S1 HEX HEE HXA HBA
          go_upto_region 20 with (refine wpList_store_at 38 (.tmp 12) (.tmp 73) rfl rfl (.pointer (some ⟨wb.heap.size, 0, none⟩)) (.agg cy.toArray) rfl rfl _ (S2.out _ rfl) ?_)
          rw [hhx.out] at hxx hlx
          rw [hhy.out] at hxy hly
          rw [hhx.out, hhy.out]
          clear S2
          rcases bare_cases HOK.out with ⟨_, hbe⟩ | ⟨_, hbe⟩ | ⟨_, hbe⟩ | ⟨_, hbe⟩
          · rw [hbe] at HCXX HCY
            have HYB : Hid (evB ⟨0, e.slot, bkZ, vtZ, pfZ⟩ = true) := by rw [← hbe]; exact bare_evB HOK.out
            obtain ⟨Y, hY⟩ : ∃ y : Ev, Hid (⟨0, e.slot, bkZ, vtZ, pfZ⟩ = y) := ⟨_, rfl⟩
            obtain ⟨a1, l1, c1, a2, l2, c2, a3, l3, c3, a4, l4, c4, a5, l5, c5, hX⟩ := HCXX.out.out
            obtain ⟨b1, m1, k1, b2, m2, k2, b3, m3, k3, b4, m4, k4, b5, m5, k5, hZ⟩ := HCY.out.out
            have e3 : l3 = 0 := (vote_len hX.vote).symm
            have e4 : l4 = 0 := (vote_len hX.pa).symm
            subst e3
            subst e4
            have KX0 : Hid (cx.toArray[0]? = some (.int .i64 0)) := show _ = _ by rw [hX.cells]; rfl
            have KX1 : Hid (cx.toArray[1]? = some (.int .i64 e.slot)) := show _ = _ by rw [hX.cells]; rfl
            have KY0 : Hid (cy.toArray[0]? = some (.int .i64 0)) := show _ = _ by rw [hZ.cells]; rfl
            have KY1 : Hid (cy.toArray[1]? = some (.int .i64 e.slot)) := show _ = _ by rw [hZ.cells]; rfl
            have KX2 : Hid (cx.toArray[2]? = some (.int .u64 0)) := show _ = _ by rw [hX.cells]; rfl
            have KX3 : Hid (cx.toArray[3]? = some (.int .u64 0)) := show _ = _ by rw [hX.cells]; rfl
            have KX13 : Hid (cx.toArray[13]? = some (.slice a3 0 c3)) := show _ = _ by rw [hX.cells]; rfl
            have KX20 : Hid (cx.toArray[20]? = some (.slice a4 0 c4)) := show _ = _ by rw [hX.cells]; rfl
            rw [hY.out] at HCXX HCY HYB
            have hml := evNs_len Y HYB.out
            have HMB := hide (evNs_b Y HCXX.out HYB.out)
            obtain ⟨q1, hq1⟩ : ∃ x, Hid ((evNs Y).length = x) := ⟨_, rfl⟩
            rw [hq1.out] at hml
            obtain ⟨sN, hsN⟩ : ∃ x, Hid (strOfNums (flat (evNs Y)) = x) := ⟨_, rfl⟩
            clear hX hZ hbe
            have hdr : Below wc.heap.size wc wc.drew := (Below.refl _ _).drew
            have hO : Hid (∀ w', Below wc.heap.size wc w' → w'.heap[hx]? = some (.cells cx.toArray 38 (0, 0)) ∧ w'.heap[hy]? = some (.cells cy.toArray 38 (0, 0))) := fun w' h => ⟨(h.block _ hlx).trans hxx, (h.block _ hly).trans hxy⟩
            refine wp_region_noPanic ?_
            refine wp_region_held_drew (S := fun w' => w'.heap[hx]? = some (.cells cx.toArray 38 (0, 0)) ∧ w'.heap[hy]? = some (.cells cy.toArray 38 (0, 0))) (by kernel_rfl) (hO.out _ hdr) (fun hHeld => ?_)
            refine take_set (i := 0) (v := .pointer (some ⟨hx, 0, none⟩)) rfl rfl (by kernel_rfl) (by kernel_rfl) (by kernel_rfl) (fun _ _ _ h => h) (Or.inl ⟨by kernel_rfl, fun w' hSw => ?_⟩) hHeld ?_
            · go_simp
            simp only [List.set_cons_succ, List.set_cons_zero]
            refine take_set (i := 1) (v := .int .i64 0) rfl rfl (by kernel_rfl) (by kernel_rfl) (by kernel_rfl) (fun _ _ _ h => h) (Or.inl ⟨by kernel_rfl, fun w' hSw => ?_⟩) hHeld ?_
            · (have q : w'.cell? ⟨hx, 0, none⟩ = some (.int .i64 0) := (cell_of_row w' hx 0 _ _ _ hSw.1).trans KX0.out; clear hSw; go_simp)
            simp only [List.set_cons_succ, List.set_cons_zero]
            refine take_set (i := 2) (v := .pointer (some ⟨hy, 0, none⟩)) rfl rfl (by kernel_rfl) (by kernel_rfl) (by kernel_rfl) (fun _ _ _ h => h) (Or.inl ⟨by kernel_rfl, fun w' hSw => ?_⟩) hHeld ?_
            · go_simp
            simp only [List.set_cons_succ, List.set_cons_zero]
            refine take_set (i := 3) (v := .int .i64 0) rfl rfl (by kernel_rfl) (by kernel_rfl) (by kernel_rfl) (fun _ _ _ h => h) (Or.inl ⟨by kernel_rfl, fun w' hSw => ?_⟩) hHeld ?_
            · (have q : w'.cell? ⟨hy, 0, none⟩ = some (.int .i64 0) := (cell_of_row w' hy 0 _ _ _ hSw.2).trans KY0.out; clear hSw; go_simp)
            simp only [List.set_cons_succ, List.set_cons_zero]
            refine take_set (i := 4) (v := .bool false) rfl rfl (by kernel_rfl) (by kernel_rfl) (by kernel_rfl) (fun _ _ _ h => h) (Or.inl ⟨by kernel_rfl, fun w' hSw => ?_⟩) hHeld ?_
            · go_simp
            simp only [List.set_cons_succ, List.set_cons_zero]
            refine take_set (i := 5) (v := .bool false) rfl rfl (by kernel_rfl) (by kernel_rfl) (by kernel_rfl) (fun _ _ _ h => h) (Or.inl ⟨by kernel_rfl, fun w' hSw => ?_⟩) hHeld ?_
            · go_simp
            simp only [List.set_cons_succ, List.set_cons_zero]
            refine take_set (i := 6) (v := .pointer (some ⟨hx, 1, none⟩)) rfl rfl (by kernel_rfl) (by kernel_rfl) (by kernel_rfl) (fun _ _ _ h => h) (Or.inl ⟨by kernel_rfl, fun w' hSw => ?_⟩) hHeld ?_
            · go_simp
            simp only [List.set_cons_succ, List.set_cons_zero]
            refine take_set (i := 7) (v := .int .i64 e.slot) rfl rfl (by kernel_rfl) (by kernel_rfl) (by kernel_rfl) (fun _ _ _ h => h) (Or.inl ⟨by kernel_rfl, fun w' hSw => ?_⟩) hHeld ?_
            · (have q : w'.cell? ⟨hx, 1, none⟩ = some (.int .i64 e.slot) := (cell_of_row w' hx 1 _ _ _ hSw.1).trans KX1.out; clear hSw; go_simp)
            simp only [List.set_cons_succ, List.set_cons_zero]
            refine take_set (i := 8) (v := .pointer (some ⟨hy, 1, none⟩)) rfl rfl (by kernel_rfl) (by kernel_rfl) (by kernel_rfl) (fun _ _ _ h => h) (Or.inl ⟨by kernel_rfl, fun w' hSw => ?_⟩) hHeld ?_
            · go_simp
            simp only [List.set_cons_succ, List.set_cons_zero]
            refine take_set (i := 9) (v := .int .i64 e.slot) rfl rfl (by kernel_rfl) (by kernel_rfl) (by kernel_rfl) (fun _ _ _ h => h) (Or.inl ⟨by kernel_rfl, fun w' hSw => ?_⟩) hHeld ?_
            · (have q : w'.cell? ⟨hy, 1, none⟩ = some (.int .i64 e.slot) := (cell_of_row w' hy 1 _ _ _ hSw.2).trans KY1.out; clear hSw; go_simp)
            simp only [List.set_cons_succ, List.set_cons_zero]
            refine take_set (i := 10) (v := .bool false) rfl rfl (by kernel_rfl) (by kernel_rfl) (by kernel_rfl) (fun _ _ _ h => h) (Or.inl ⟨by kernel_rfl, fun w' hSw => ?_⟩) hHeld ?_
            · go_simp
            simp only [List.set_cons_succ, List.set_cons_zero]
            refine take_set (i := 11) (v := .bool false) rfl rfl (by kernel_rfl) (by kernel_rfl) (by kernel_rfl) (fun _ _ _ h => h) (Or.inl ⟨by kernel_rfl, fun w' hSw => ?_⟩) hHeld ?_
            · go_simp
            simp only [List.set_cons_succ, List.set_cons_zero]
            refine take_set (i := 12) (v := .bool false) rfl rfl (by kernel_rfl) (by kernel_rfl) (by kernel_rfl) (fun _ _ _ h => h) (Or.inl ⟨by kernel_rfl, fun w' hSw => ?_⟩) hHeld ?_
            · go_simp
            simp only [List.set_cons_succ, List.set_cons_zero]
            refine take_part (i := 13) hx 0 cx 38 (.tmp 11) _ HL2.out.1 infoEv Try.underlying38 rfl rfl (by kernel_rfl) (by kernel_rfl) (by kernel_rfl) (fun _ _ _ h => h) (by kernel_rfl) rfl rfl hHeld (fun w' h => range_obj w' h.1) ?_
            simp only [List.set_cons_succ, List.set_cons_zero]
            refine take_part (i := 17) hy 0 cy 38 (.tmp 12) _ HL2.out.2 infoEv Try.underlying38 rfl rfl (by kernel_rfl) (by kernel_rfl) (by kernel_rfl) (fun _ _ _ h => h) (by kernel_rfl) rfl rfl hHeld (fun w' h => range_obj w' h.2) ?_
            simp only [List.set_cons_succ, List.set_cons_zero]
            refine wpAnyH_ready (rs := [14]) (by kernel_rfl) (by simp) ?_
            refine AllReadyH.cons (o := _) rfl (fun K hK => ?_) AllReadyH.nil
            go_simp
            refine (lnum_any Y _ wc.drew (HCXX.out.below hdr) HYB.out).mono ?_
            rintro r u1 ⟨vv, rfl, hr, hb⟩
            obtain ⟨aou1, du1, rfl, hrowu1⟩ := hr.form
            rw [hq1.out] at hrowu1 ⊢
            have Bu1 : Below wc.heap.size wc u1 := Below.trans hdr (hb.mono (Below.size hdr))
            clear hr hb
            refine hK.out _ _ (hO.out u1 Bu1) (fun hHeld => ?_)
            clear hK K
            refine wpAnyH_ready (rs := [15]) (by kernel_rfl) (by simp) ?_
            refine AllReadyH.cons (o := _) rfl (fun K hK => ?_) AllReadyH.nil
            go_simp
            refine (put_any [] (evNs Y) none aou1 0 0 q1 du1 u1 (RowIn.ofNil _ _) hrowu1 HMB.out (by omega)).mono ?_
            rintro r u2 ⟨rfl, ownu2, hb⟩
            rw [Nat.zero_add] at ownu2 ⊢
            rw [List.nil_append] at ownu2
            have Ru2 := RowIn.owned ownu2
            obtain ⟨gu2, hgu2⟩ : ∃ x, Hid (u1.heap.size = x) := ⟨_, rfl⟩
            rw [hgu2.out] at Ru2 ⊢
            have Bu2 : Below wc.heap.size wc u2 := Bu1.trans (hb.mono (Below.size Bu1))
            have Ku2 : Hid (∀ w', Below u2.heap.size u2 w' → (convert 40 9 (.slice (some ⟨gu2, 0, none⟩) (8 * q1) (8 * q1))).run Try.prog w' = .ok (.string sN) w') := fun w' h => by rw [← hsN.out]; exact conv_row (Ru2.below h)
            clear ownu2 Ru2 hrowu1
            refine hK.out _ _ (hO.out u2 Bu2) (fun hHeld => ?_)
            clear hK K
            refine wpAnyH_strong (S' := fun w' => (w'.heap[hx]? = some (.cells cx.toArray 38 (0, 0)) ∧ w'.heap[hy]? = some (.cells cy.toArray 38 (0, 0))) ∧ (convert 40 9 (.slice (some ⟨gu2, 0, none⟩) (8 * q1) (8 * q1))).run Try.prog w' = .ok (.string sN) w') (fun w h => h.1) _ _ _ _ ?_
            replace hHeld := And.intro hHeld (Ku2.out u2 (Below.refl _ _))
            refine take_set (i := 16) (v := .string sN) rfl rfl (by kernel_rfl) (by kernel_rfl) (by kernel_rfl) (fun _ _ _ h => h) (Or.inl ⟨by kernel_rfl, fun w' hSw => ?_⟩) hHeld ?_
            · (have q := hSw.2; clear hSw; go_simp)
            simp only [List.set_cons_succ, List.set_cons_zero]
            refine wpAnyH_ready (rs := [18]) (by kernel_rfl) (by simp) ?_
            refine AllReadyH.cons (o := _) rfl (fun K hK => ?_) AllReadyH.nil
            go_simp
            refine (lnum_any Y _ u2 (HCY.out.below Bu2) HYB.out).mono ?_
            rintro r u3 ⟨vv, rfl, hr, hb⟩
            obtain ⟨aou3, du3, rfl, hrowu3⟩ := hr.form
            rw [hq1.out] at hrowu3 ⊢
            have Bu3 : Below wc.heap.size wc u3 := Below.trans Bu2 (hb.mono (Below.size Bu2))
            have hb23 := hb
            clear hr hb
            have Bu23 : Below u2.heap.size u2 u3 := hb23
            refine hK.out _ _ (⟨hO.out u3 Bu3, Ku2.out u3 Bu23⟩) (fun hHeld => ?_)
            clear hK K
            refine wpAnyH_ready (rs := [19]) (by kernel_rfl) (by simp) ?_
            refine AllReadyH.cons (o := _) rfl (fun K hK => ?_) AllReadyH.nil
            go_simp
            refine (put_any [] (evNs Y) none aou3 0 0 q1 du3 u3 (RowIn.ofNil _ _) hrowu3 HMB.out (by omega)).mono ?_
            rintro r u4 ⟨rfl, ownu4, hb⟩
            rw [Nat.zero_add] at ownu4 ⊢
            rw [List.nil_append] at ownu4
            have Ru4 := RowIn.owned ownu4
            obtain ⟨gu4, hgu4⟩ : ∃ x, Hid (u3.heap.size = x) := ⟨_, rfl⟩
            rw [hgu4.out] at Ru4 ⊢
            have Bu4 : Below wc.heap.size wc u4 := Bu3.trans (hb.mono (Below.size Bu3))
            have Ku4 : Hid (∀ w', Below u4.heap.size u4 w' → (convert 40 9 (.slice (some ⟨gu4, 0, none⟩) (8 * q1) (8 * q1))).run Try.prog w' = .ok (.string sN) w') := fun w' h => by rw [← hsN.out]; exact conv_row (Ru4.below h)
            have Bu24 : Below u2.heap.size u2 u4 := Bu23.trans (hb.mono Bu23.size)
            clear ownu4 Ru4 hrowu3
            refine hK.out _ _ (⟨hO.out u4 Bu4, Ku2.out u4 Bu24⟩) (fun hHeld => ?_)
            clear hK K
            refine wpAnyH_strong (S' := fun w' => ((w'.heap[hx]? = some (.cells cx.toArray 38 (0, 0)) ∧ w'.heap[hy]? = some (.cells cy.toArray 38 (0, 0))) ∧ (convert 40 9 (.slice (some ⟨gu2, 0, none⟩) (8 * q1) (8 * q1))).run Try.prog w' = .ok (.string sN) w') ∧ (convert 40 9 (.slice (some ⟨gu4, 0, none⟩) (8 * q1) (8 * q1))).run Try.prog w' = .ok (.string sN) w') (fun w h => h.1) _ _ _ _ ?_
            replace hHeld := And.intro hHeld (Ku4.out u4 (Below.refl _ _))
            refine take_set (i := 20) (v := .string sN) rfl rfl (by kernel_rfl) (by kernel_rfl) (by kernel_rfl) (fun _ _ _ h => h) (Or.inl ⟨by kernel_rfl, fun w' hSw => ?_⟩) hHeld ?_
            · (have q := hSw.2; clear hSw; go_simp)
            simp only [List.set_cons_succ, List.set_cons_zero]
            refine take_set (i := 21) (v := .bool false) rfl rfl (by kernel_rfl) (by kernel_rfl) (by kernel_rfl) (fun _ _ _ h => h) (Or.inl ⟨by kernel_rfl, fun w' hSw => ?_⟩) hHeld ?_
            · go_simp
            simp only [List.set_cons_succ, List.set_cons_zero]
            refine take_set (i := 22) (v := .bool false) rfl rfl (by kernel_rfl) (by kernel_rfl) (by kernel_rfl) (fun _ _ _ h => h) (Or.inl ⟨by kernel_rfl, fun w' hSw => ?_⟩) hHeld ?_
            · go_simp
            simp only [List.set_cons_succ, List.set_cons_zero]
            refine take_set (i := 23) (v := .bool false) rfl rfl (by kernel_rfl) (by kernel_rfl) (by kernel_rfl) (fun _ _ _ h => h) (Or.inl ⟨by kernel_rfl, fun w' hSw => ?_⟩) hHeld ?_
            · go_simp
            simp only [List.set_cons_succ, List.set_cons_zero]
            refine take_set (i := 24) (v := .pointer (some ⟨hx, 0, none⟩)) rfl rfl (by kernel_rfl) (by kernel_rfl) (by kernel_rfl) (fun _ _ _ h => h) (Or.inl ⟨by kernel_rfl, fun w' hSw => ?_⟩) hHeld ?_
            · go_simp
            simp only [List.set_cons_succ, List.set_cons_zero]
            refine take_set (i := 25) (v := .int .i64 0) rfl rfl (by kernel_rfl) (by kernel_rfl) (by kernel_rfl) (fun _ _ _ h => h) (Or.inl ⟨by kernel_rfl, fun w' hSw => ?_⟩) hHeld ?_
            · (have q : w'.cell? ⟨hx, 0, none⟩ = some (.int .i64 0) := (cell_of_row w' hx 0 _ _ _ hSw.1.1.1).trans KX0.out; clear hSw; go_simp)
            simp only [List.set_cons_succ, List.set_cons_zero]
            refine take_set (i := 26) (v := .bool true) rfl rfl (by kernel_rfl) (by kernel_rfl) (by kernel_rfl) (fun _ _ _ h => h) (Or.inl ⟨by kernel_rfl, fun w' hSw => ?_⟩) hHeld ?_
            · go_simp
            simp only [List.set_cons_succ, List.set_cons_zero]
            refine take_set (i := 27) (v := .bool true) rfl rfl (by kernel_rfl) (by kernel_rfl) (by kernel_rfl) (fun _ _ _ h => h) (Or.inl ⟨by kernel_rfl, fun w' hSw => ?_⟩) hHeld ?_
            · go_simp
            simp only [List.set_cons_succ, List.set_cons_zero]
            refine take_set (i := 28) (v := .pointer (some ⟨hx, 2, none⟩)) rfl rfl (by kernel_rfl) (by kernel_rfl) (by kernel_rfl) (fun _ _ _ h => h) (Or.inl ⟨by kernel_rfl, fun w' hSw => ?_⟩) hHeld ?_
            · go_simp
            simp only [List.set_cons_succ, List.set_cons_zero]
            refine take_set (i := 29) (v := .pointer (some ⟨hx, 2, none⟩)) rfl rfl (by kernel_rfl) (by kernel_rfl) (by kernel_rfl) (fun _ _ _ h => h) (Or.inl ⟨by kernel_rfl, fun w' hSw => ?_⟩) hHeld ?_
            · go_simp
            simp only [List.set_cons_succ, List.set_cons_zero]
            refine take_set (i := 30) (v := .int .u64 0) rfl rfl (by kernel_rfl) (by kernel_rfl) (by kernel_rfl) (fun _ _ _ h => h) (Or.inl ⟨by kernel_rfl, fun w' hSw => ?_⟩) hHeld ?_
            · (have q : w'.cell? ⟨hx, 2, none⟩ = some (.int .u64 0) := (cell_of_row w' hx 2 _ _ _ hSw.1.1.1).trans KX2.out; clear hSw; go_simp)
            simp only [List.set_cons_succ, List.set_cons_zero]
            refine take_set (i := 31) (v := .pointer (some ⟨hx, 2, none⟩)) rfl rfl (by kernel_rfl) (by kernel_rfl) (by kernel_rfl) (fun _ _ _ h => h) (Or.inl ⟨by kernel_rfl, fun w' hSw => ?_⟩) hHeld ?_
            · go_simp
            simp only [List.set_cons_succ, List.set_cons_zero]
            refine take_set (i := 32) (v := .pointer (some ⟨hx, 3, none⟩)) rfl rfl (by kernel_rfl) (by kernel_rfl) (by kernel_rfl) (fun _ _ _ h => h) (Or.inl ⟨by kernel_rfl, fun w' hSw => ?_⟩) hHeld ?_
            · go_simp
            simp only [List.set_cons_succ, List.set_cons_zero]
            refine take_set (i := 33) (v := .int .u64 0) rfl rfl (by kernel_rfl) (by kernel_rfl) (by kernel_rfl) (fun _ _ _ h => h) (Or.inl ⟨by kernel_rfl, fun w' hSw => ?_⟩) hHeld ?_
            · (have q : w'.cell? ⟨hx, 3, none⟩ = some (.int .u64 0) := (cell_of_row w' hx 3 _ _ _ hSw.1.1.1).trans KX3.out; clear hSw; go_simp)
            simp only [List.set_cons_succ, List.set_cons_zero]
            refine take_set (i := 34) (v := .int .u64 0) rfl rfl (by kernel_rfl) (by kernel_rfl) (by kernel_rfl) (fun _ _ _ h => h) (Or.inl ⟨by kernel_rfl, fun w' hSw => ?_⟩) hHeld ?_
            · (go_simp; rw [IntKind.wrap_u64]; rfl)
            simp only [List.set_cons_succ, List.set_cons_zero]
            refine take_set (i := 35) (v := .bool false) rfl rfl (by kernel_rfl) (by kernel_rfl) (by kernel_rfl) (fun _ _ _ h => h) (Or.inl ⟨by kernel_rfl, fun w' hSw => ?_⟩) hHeld ?_
            · go_simp
            simp only [List.set_cons_succ, List.set_cons_zero]
            refine take_set (i := 36) (v := .bool false) rfl rfl (by kernel_rfl) (by kernel_rfl) (by kernel_rfl) (fun _ _ _ h => h) (Or.inl ⟨by kernel_rfl, fun w' hSw => ?_⟩) hHeld ?_
            · go_simp
            simp only [List.set_cons_succ, List.set_cons_zero]
            refine take_set (i := 37) (v := .bool false) rfl rfl (by kernel_rfl) (by kernel_rfl) (by kernel_rfl) (fun _ _ _ h => h) (Or.inl ⟨by kernel_rfl, fun w' hSw => ?_⟩) hHeld ?_
            · go_simp
            simp only [List.set_cons_succ, List.set_cons_zero]
            refine take_set (i := 38) (v := .bool false) rfl rfl (by kernel_rfl) (by kernel_rfl) (by kernel_rfl) (fun _ _ _ h => h) (Or.inl ⟨by kernel_rfl, fun w' hSw => ?_⟩) hHeld ?_
            · go_simp
            simp only [List.set_cons_succ, List.set_cons_zero]
            refine take_set (i := 39) (v := .pointer (some ⟨hx, 0, none⟩)) rfl rfl (by kernel_rfl) (by kernel_rfl) (by kernel_rfl) (fun _ _ _ h => h) (Or.inl ⟨by kernel_rfl, fun w' hSw => ?_⟩) hHeld ?_
            · go_simp
            simp only [List.set_cons_succ, List.set_cons_zero]
            refine take_set (i := 40) (v := .int .i64 0) rfl rfl (by kernel_rfl) (by kernel_rfl) (by kernel_rfl) (fun _ _ _ h => h) (Or.inl ⟨by kernel_rfl, fun w' hSw => ?_⟩) hHeld ?_
            · (have q : w'.cell? ⟨hx, 0, none⟩ = some (.int .i64 0) := (cell_of_row w' hx 0 _ _ _ hSw.1.1.1).trans KX0.out; clear hSw; go_simp)
            simp only [List.set_cons_succ, List.set_cons_zero]
            refine take_set (i := 41) (v := .bool true) rfl rfl (by kernel_rfl) (by kernel_rfl) (by kernel_rfl) (fun _ _ _ h => h) (Or.inl ⟨by kernel_rfl, fun w' hSw => ?_⟩) hHeld ?_
            · go_simp
            simp only [List.set_cons_succ, List.set_cons_zero]
            refine take_set (i := 42) (v := .bool true) rfl rfl (by kernel_rfl) (by kernel_rfl) (by kernel_rfl) (fun _ _ _ h => h) (Or.inl ⟨by kernel_rfl, fun w' hSw => ?_⟩) hHeld ?_
            · go_simp
            simp only [List.set_cons_succ, List.set_cons_zero]
            refine take_set (i := 43) (v := .pointer (some ⟨hx, 7, none⟩)) rfl rfl (by kernel_rfl) (by kernel_rfl) (by kernel_rfl) (fun _ _ _ h => h) (Or.inl ⟨by kernel_rfl, fun w' hSw => ?_⟩) hHeld ?_
            · go_simp
            simp only [List.set_cons_succ, List.set_cons_zero]
            refine take_set (i := 44) (v := .pointer (some ⟨hx, 13, none⟩)) rfl rfl (by kernel_rfl) (by kernel_rfl) (by kernel_rfl) (fun _ _ _ h => h) (Or.inl ⟨by kernel_rfl, fun w' hSw => ?_⟩) hHeld ?_
            · go_simp
            simp only [List.set_cons_succ, List.set_cons_zero]
            refine take_set (i := 45) (v := .slice a3 0 c3) rfl rfl (by kernel_rfl) (by kernel_rfl) (by kernel_rfl) (fun _ _ _ h => h) (Or.inl ⟨by kernel_rfl, fun w' hSw => ?_⟩) hHeld ?_
            · (have q : w'.cell? ⟨hx, 13, none⟩ = some (.slice a3 0 c3) := (cell_of_row w' hx 13 _ _ _ hSw.1.1.1).trans KX13.out; clear hSw; go_simp)
            simp only [List.set_cons_succ, List.set_cons_zero]
            refine take_set (i := 46) (v := .int .i64 0) rfl rfl (by kernel_rfl) (by kernel_rfl) (by kernel_rfl) (fun _ _ _ h => h) (Or.inl ⟨by kernel_rfl, fun w' hSw => ?_⟩) hHeld ?_
            · go_simp
            simp only [List.set_cons_succ, List.set_cons_zero]
            refine take_set (i := 47) (v := .bool false) rfl rfl (by kernel_rfl) (by kernel_rfl) (by kernel_rfl) (fun _ _ _ h => h) (Or.inl ⟨by kernel_rfl, fun w' hSw => ?_⟩) hHeld ?_
            · go_simp
            simp only [List.set_cons_succ, List.set_cons_zero]
            refine take_set (i := 48) (v := .bool false) rfl rfl (by kernel_rfl) (by kernel_rfl) (by kernel_rfl) (fun _ _ _ h => h) (Or.inl ⟨by kernel_rfl, fun w' hSw => ?_⟩) hHeld ?_
            · go_simp
            simp only [List.set_cons_succ, List.set_cons_zero]
            refine take_set (i := 49) (v := .bool false) rfl rfl (by kernel_rfl) (by kernel_rfl) (by kernel_rfl) (fun _ _ _ h => h) (Or.inl ⟨by kernel_rfl, fun w' hSw => ?_⟩) hHeld ?_
            · go_simp
            simp only [List.set_cons_succ, List.set_cons_zero]
            refine take_set (i := 50) (v := .bool false) rfl rfl (by kernel_rfl) (by kernel_rfl) (by kernel_rfl) (fun _ _ _ h => h) (Or.inl ⟨by kernel_rfl, fun w' hSw => ?_⟩) hHeld ?_
            · go_simp
            simp only [List.set_cons_succ, List.set_cons_zero]
            refine take_set (i := 51) (v := .pointer (some ⟨hx, 0, none⟩)) rfl rfl (by kernel_rfl) (by kernel_rfl) (by kernel_rfl) (fun _ _ _ h => h) (Or.inl ⟨by kernel_rfl, fun w' hSw => ?_⟩) hHeld ?_
            · go_simp
            simp only [List.set_cons_succ, List.set_cons_zero]
            refine take_set (i := 52) (v := .int .i64 0) rfl rfl (by kernel_rfl) (by kernel_rfl) (by kernel_rfl) (fun _ _ _ h => h) (Or.inl ⟨by kernel_rfl, fun w' hSw => ?_⟩) hHeld ?_
            · (have q : w'.cell? ⟨hx, 0, none⟩ = some (.int .i64 0) := (cell_of_row w' hx 0 _ _ _ hSw.1.1.1).trans KX0.out; clear hSw; go_simp)
            simp only [List.set_cons_succ, List.set_cons_zero]
            refine take_set (i := 53) (v := .bool true) rfl rfl (by kernel_rfl) (by kernel_rfl) (by kernel_rfl) (fun _ _ _ h => h) (Or.inl ⟨by kernel_rfl, fun w' hSw => ?_⟩) hHeld ?_
            · go_simp
            simp only [List.set_cons_succ, List.set_cons_zero]
            refine take_set (i := 54) (v := .bool true) rfl rfl (by kernel_rfl) (by kernel_rfl) (by kernel_rfl) (fun _ _ _ h => h) (Or.inl ⟨by kernel_rfl, fun w' hSw => ?_⟩) hHeld ?_
            · go_simp
            simp only [List.set_cons_succ, List.set_cons_zero]
            refine take_set (i := 55) (v := .pointer (some ⟨hx, 14, none⟩)) rfl rfl (by kernel_rfl) (by kernel_rfl) (by kernel_rfl) (fun _ _ _ h => h) (Or.inl ⟨by kernel_rfl, fun w' hSw => ?_⟩) hHeld ?_
            · go_simp
            simp only [List.set_cons_succ, List.set_cons_zero]
            refine take_set (i := 56) (v := .pointer (some ⟨hx, 14, none⟩)) rfl rfl (by kernel_rfl) (by kernel_rfl) (by kernel_rfl) (fun _ _ _ h => h) (Or.inl ⟨by kernel_rfl, fun w' hSw => ?_⟩) hHeld ?_
            · go_simp
            simp only [List.set_cons_succ, List.set_cons_zero]
            refine take_set (i := 57) (v := .pointer (some ⟨hx, 20, none⟩)) rfl rfl (by kernel_rfl) (by kernel_rfl) (by kernel_rfl) (fun _ _ _ h => h) (Or.inl ⟨by kernel_rfl, fun w' hSw => ?_⟩) hHeld ?_
            · go_simp
            simp only [List.set_cons_succ, List.set_cons_zero]
            refine take_set (i := 58) (v := .slice a4 0 c4) rfl rfl (by kernel_rfl) (by kernel_rfl) (by kernel_rfl) (fun _ _ _ h => h) (Or.inl ⟨by kernel_rfl, fun w' hSw => ?_⟩) hHeld ?_
            · (have q : w'.cell? ⟨hx, 20, none⟩ = some (.slice a4 0 c4) := (cell_of_row w' hx 20 _ _ _ hSw.1.1.1).trans KX20.out; clear hSw; go_simp)
            simp only [List.set_cons_succ, List.set_cons_zero]
            refine take_set (i := 59) (v := .int .i64 0) rfl rfl (by kernel_rfl) (by kernel_rfl) (by kernel_rfl) (fun _ _ _ h => h) (Or.inl ⟨by kernel_rfl, fun w' hSw => ?_⟩) hHeld ?_
            · go_simp
            simp only [List.set_cons_succ, List.set_cons_zero]
            refine take_set (i := 60) (v := .bool false) rfl rfl (by kernel_rfl) (by kernel_rfl) (by kernel_rfl) (fun _ _ _ h => h) (Or.inl ⟨by kernel_rfl, fun w' hSw => ?_⟩) hHeld ?_
            · go_simp
            simp only [List.set_cons_succ, List.set_cons_zero]
            refine take_set (i := 61) (v := .bool false) rfl rfl (by kernel_rfl) (by kernel_rfl) (by kernel_rfl) (fun _ _ _ h => h) (Or.inl ⟨by kernel_rfl, fun w' hSw => ?_⟩) hHeld ?_
            · go_simp
            simp only [List.set_cons_succ, List.set_cons_zero]
            refine take_set (i := 62) (v := .bool false) rfl rfl (by kernel_rfl) (by kernel_rfl) (by kernel_rfl) (fun _ _ _ h => h) (Or.inl ⟨by kernel_rfl, fun w' hSw => ?_⟩) hHeld ?_
            · go_simp
            simp only [List.set_cons_succ, List.set_cons_zero]
            refine wpAnyH_done (by kernel_rfl) ?_ _
            refine NoPanic.normal ?_
            have HJ4 : Hid (Below v5.heap.size v5 u4) := HBC.out.trans (Bu4.mono HBC.out.size)
            clear Bu1 Bu2 Bu3 Bu4 Bu23 Bu24 hb23 hml
            clear hHeld hdr hxx hxy hlx hly KX0 KX1 KY0 KY1 HL2 HMB hsN Ku2 Ku4 hO hq1 HCXX HCY HYB hY hsa
            go_wp2
            go_roundw
            case rel => exact ⟨j + 1, by omega, by go_num, HJ4⟩
            case measure => simp [intOf]; omega
          · rw [hbe] at HCXX HCY
            have HYB : Hid (evB ⟨1, 0, e.block, vtZ, pfZ⟩ = true) := by rw [← hbe]; exact bare_evB HOK.out
            obtain ⟨Y, hY⟩ : ∃ y : Ev, Hid (⟨1, 0, e.block, vtZ, pfZ⟩ = y) := ⟨_, rfl⟩
            obtain ⟨a1, l1, c1, a2, l2, c2, a3, l3, c3, a4, l4, c4, a5, l5, c5, hX⟩ := HCXX.out.out
            obtain ⟨b1, m1, k1, b2, m2, k2, b3, m3, k3, b4, m4, k4, b5, m5, k5, hZ⟩ := HCY.out.out
            have e3 : l3 = 0 := (vote_len hX.vote).symm
            have e4 : l4 = 0 := (vote_len hX.pa).symm
            subst e3
            subst e4
            have KX0 : Hid (cx.toArray[0]? = some (.int .i64 1)) := show _ = _ by rw [hX.cells]; rfl
            have KX1 : Hid (cx.toArray[1]? = some (.int .i64 0)) := show _ = _ by rw [hX.cells]; rfl
            have KY0 : Hid (cy.toArray[0]? = some (.int .i64 1)) := show _ = _ by rw [hZ.cells]; rfl
            have KY1 : Hid (cy.toArray[1]? = some (.int .i64 0)) := show _ = _ by rw [hZ.cells]; rfl
            have KX13 : Hid (cx.toArray[13]? = some (.slice a3 0 c3)) := show _ = _ by rw [hX.cells]; rfl
            have KX20 : Hid (cx.toArray[20]? = some (.slice a4 0 c4)) := show _ = _ by rw [hX.cells]; rfl
            rw [hY.out] at HCXX HCY HYB
            have hml := evNs_len Y HYB.out
            have HMB := hide (evNs_b Y HCXX.out HYB.out)
            obtain ⟨q1, hq1⟩ : ∃ x, Hid ((evNs Y).length = x) := ⟨_, rfl⟩
            rw [hq1.out] at hml
            obtain ⟨sN, hsN⟩ : ∃ x, Hid (strOfNums (flat (evNs Y)) = x) := ⟨_, rfl⟩
            clear hX hZ hbe
            have hdr : Below wc.heap.size wc wc.drew := (Below.refl _ _).drew
            have hO : Hid (∀ w', Below wc.heap.size wc w' → w'.heap[hx]? = some (.cells cx.toArray 38 (0, 0)) ∧ w'.heap[hy]? = some (.cells cy.toArray 38 (0, 0))) := fun w' h => ⟨(h.block _ hlx).trans hxx, (h.block _ hly).trans hxy⟩
            refine wp_region_noPanic ?_
            refine wp_region_held_drew (S := fun w' => w'.heap[hx]? = some (.cells cx.toArray 38 (0, 0)) ∧ w'.heap[hy]? = some (.cells cy.toArray 38 (0, 0))) (by kernel_rfl) (hO.out _ hdr) (fun hHeld => ?_)
            refine take_set (i := 0) (v := .pointer (some ⟨hx, 0, none⟩)) rfl rfl (by kernel_rfl) (by kernel_rfl) (by kernel_rfl) (fun _ _ _ h => h) (Or.inl ⟨by kernel_rfl, fun w' hSw => ?_⟩) hHeld ?_
            · go_simp
            simp only [List.set_cons_succ, List.set_cons_zero]
            refine take_set (i := 1) (v := .int .i64 1) rfl rfl (by kernel_rfl) (by kernel_rfl) (by kernel_rfl) (fun _ _ _ h => h) (Or.inl ⟨by kernel_rfl, fun w' hSw => ?_⟩) hHeld ?_
            · (have q : w'.cell? ⟨hx, 0, none⟩ = some (.int .i64 1) := (cell_of_row w' hx 0 _ _ _ hSw.1).trans KX0.out; clear hSw; go_simp)
            simp only [List.set_cons_succ, List.set_cons_zero]
            refine take_set (i := 2) (v := .pointer (some ⟨hy, 0, none⟩)) rfl rfl (by kernel_rfl) (by kernel_rfl) (by kernel_rfl) (fun _ _ _ h => h) (Or.inl ⟨by kernel_rfl, fun w' hSw => ?_⟩) hHeld ?_
            · go_simp
            simp only [List.set_cons_succ, List.set_cons_zero]
            refine take_set (i := 3) (v := .int .i64 1) rfl rfl (by kernel_rfl) (by kernel_rfl) (by kernel_rfl) (fun _ _ _ h => h) (Or.inl ⟨by kernel_rfl, fun w' hSw => ?_⟩) hHeld ?_
            · (have q : w'.cell? ⟨hy, 0, none⟩ = some (.int .i64 1) := (cell_of_row w' hy 0 _ _ _ hSw.2).trans KY0.out; clear hSw; go_simp)
            simp only [List.set_cons_succ, List.set_cons_zero]
            refine take_set (i := 4) (v := .bool false) rfl rfl (by kernel_rfl) (by kernel_rfl) (by kernel_rfl) (fun _ _ _ h => h) (Or.inl ⟨by kernel_rfl, fun w' hSw => ?_⟩) hHeld ?_
            · go_simp
            simp only [List.set_cons_succ, List.set_cons_zero]
            refine take_set (i := 5) (v := .bool false) rfl rfl (by kernel_rfl) (by kernel_rfl) (by kernel_rfl) (fun _ _ _ h => h) (Or.inl ⟨by kernel_rfl, fun w' hSw => ?_⟩) hHeld ?_
            · go_simp
            simp only [List.set_cons_succ, List.set_cons_zero]
            refine take_set (i := 6) (v := .pointer (some ⟨hx, 1, none⟩)) rfl rfl (by kernel_rfl) (by kernel_rfl) (by kernel_rfl) (fun _ _ _ h => h) (Or.inl ⟨by kernel_rfl, fun w' hSw => ?_⟩) hHeld ?_
            · go_simp
            simp only [List.set_cons_succ, List.set_cons_zero]
            refine take_set (i := 7) (v := .int .i64 0) rfl rfl (by kernel_rfl) (by kernel_rfl) (by kernel_rfl) (fun _ _ _ h => h) (Or.inl ⟨by kernel_rfl, fun w' hSw => ?_⟩) hHeld ?_
            · (have q : w'.cell? ⟨hx, 1, none⟩ = some (.int .i64 0) := (cell_of_row w' hx 1 _ _ _ hSw.1).trans KX1.out; clear hSw; go_simp)
            simp only [List.set_cons_succ, List.set_cons_zero]
            refine take_set (i := 8) (v := .pointer (some ⟨hy, 1, none⟩)) rfl rfl (by kernel_rfl) (by kernel_rfl) (by kernel_rfl) (fun _ _ _ h => h) (Or.inl ⟨by kernel_rfl, fun w' hSw => ?_⟩) hHeld ?_
            · go_simp
            simp only [List.set_cons_succ, List.set_cons_zero]
            refine take_set (i := 9) (v := .int .i64 0) rfl rfl (by kernel_rfl) (by kernel_rfl) (by kernel_rfl) (fun _ _ _ h => h) (Or.inl ⟨by kernel_rfl, fun w' hSw => ?_⟩) hHeld ?_
            · (have q : w'.cell? ⟨hy, 1, none⟩ = some (.int .i64 0) := (cell_of_row w' hy 1 _ _ _ hSw.2).trans KY1.out; clear hSw; go_simp)
            simp only [List.set_cons_succ, List.set_cons_zero]
            refine take_set (i := 10) (v := .bool false) rfl rfl (by kernel_rfl) (by kernel_rfl) (by kernel_rfl) (fun _ _ _ h => h) (Or.inl ⟨by kernel_rfl, fun w' hSw => ?_⟩) hHeld ?_
            · go_simp
            simp only [List.set_cons_succ, List.set_cons_zero]
            refine take_set (i := 11) (v := .bool false) rfl rfl (by kernel_rfl) (by kernel_rfl) (by kernel_rfl) (fun _ _ _ h => h) (Or.inl ⟨by kernel_rfl, fun w' hSw => ?_⟩) hHeld ?_
            · go_simp
            simp only [List.set_cons_succ, List.set_cons_zero]
            refine take_set (i := 12) (v := .bool false) rfl rfl (by kernel_rfl) (by kernel_rfl) (by kernel_rfl) (fun _ _ _ h => h) (Or.inl ⟨by kernel_rfl, fun w' hSw => ?_⟩) hHeld ?_
            · go_simp
            simp only [List.set_cons_succ, List.set_cons_zero]
            refine take_part (i := 13) hx 0 cx 38 (.tmp 11) _ HL2.out.1 infoEv Try.underlying38 rfl rfl (by kernel_rfl) (by kernel_rfl) (by kernel_rfl) (fun _ _ _ h => h) (by kernel_rfl) rfl rfl hHeld (fun w' h => range_obj w' h.1) ?_
            simp only [List.set_cons_succ, List.set_cons_zero]
            refine take_part (i := 17) hy 0 cy 38 (.tmp 12) _ HL2.out.2 infoEv Try.underlying38 rfl rfl (by kernel_rfl) (by kernel_rfl) (by kernel_rfl) (fun _ _ _ h => h) (by kernel_rfl) rfl rfl hHeld (fun w' h => range_obj w' h.2) ?_
            simp only [List.set_cons_succ, List.set_cons_zero]
            refine wpAnyH_ready (rs := [14]) (by kernel_rfl) (by simp) ?_
            refine AllReadyH.cons (o := _) rfl (fun K hK => ?_) AllReadyH.nil
            go_simp
            refine (lnum_any Y _ wc.drew (HCXX.out.below hdr) HYB.out).mono ?_
            rintro r u1 ⟨vv, rfl, hr, hb⟩
            obtain ⟨aou1, du1, rfl, hrowu1⟩ := hr.form
            rw [hq1.out] at hrowu1 ⊢
            have Bu1 : Below wc.heap.size wc u1 := Below.trans hdr (hb.mono (Below.size hdr))
            clear hr hb
            refine hK.out _ _ (hO.out u1 Bu1) (fun hHeld => ?_)
            clear hK K
            refine wpAnyH_ready (rs := [15]) (by kernel_rfl) (by simp) ?_
            refine AllReadyH.cons (o := _) rfl (fun K hK => ?_) AllReadyH.nil
            go_simp
            refine (put_any [] (evNs Y) none aou1 0 0 q1 du1 u1 (RowIn.ofNil _ _) hrowu1 HMB.out (by omega)).mono ?_
            rintro r u2 ⟨rfl, ownu2, hb⟩
            rw [Nat.zero_add] at ownu2 ⊢
            rw [List.nil_append] at ownu2
            have Ru2 := RowIn.owned ownu2
            obtain ⟨gu2, hgu2⟩ : ∃ x, Hid (u1.heap.size = x) := ⟨_, rfl⟩
            rw [hgu2.out] at Ru2 ⊢
            have Bu2 : Below wc.heap.size wc u2 := Bu1.trans (hb.mono (Below.size Bu1))
            have Ku2 : Hid (∀ w', Below u2.heap.size u2 w' → (convert 40 9 (.slice (some ⟨gu2, 0, none⟩) (8 * q1) (8 * q1))).run Try.prog w' = .ok (.string sN) w') := fun w' h => by rw [← hsN.out]; exact conv_row (Ru2.below h)
            clear ownu2 Ru2 hrowu1
            refine hK.out _ _ (hO.out u2 Bu2) (fun hHeld => ?_)
            clear hK K
            refine wpAnyH_strong (S' := fun w' => (w'.heap[hx]? = some (.cells cx.toArray 38 (0, 0)) ∧ w'.heap[hy]? = some (.cells cy.toArray 38 (0, 0))) ∧ (convert 40 9 (.slice (some ⟨gu2, 0, none⟩) (8 * q1) (8 * q1))).run Try.prog w' = .ok (.string sN) w') (fun w h => h.1) _ _ _ _ ?_
            replace hHeld := And.intro hHeld (Ku2.out u2 (Below.refl _ _))
            refine take_set (i := 16) (v := .string sN) rfl rfl (by kernel_rfl) (by kernel_rfl) (by kernel_rfl) (fun _ _ _ h => h) (Or.inl ⟨by kernel_rfl, fun w' hSw => ?_⟩) hHeld ?_
            · (have q := hSw.2; clear hSw; go_simp)
            simp only [List.set_cons_succ, List.set_cons_zero]
            refine wpAnyH_ready (rs := [18]) (by kernel_rfl) (by simp) ?_
            refine AllReadyH.cons (o := _) rfl (fun K hK => ?_) AllReadyH.nil
            go_simp
            refine (lnum_any Y _ u2 (HCY.out.below Bu2) HYB.out).mono ?_
            rintro r u3 ⟨vv, rfl, hr, hb⟩
            obtain ⟨aou3, du3, rfl, hrowu3⟩ := hr.form
            rw [hq1.out] at hrowu3 ⊢
            have Bu3 : Below wc.heap.size wc u3 := Below.trans Bu2 (hb.mono (Below.size Bu2))
            have hb23 := hb
            clear hr hb
            have Bu23 : Below u2.heap.size u2 u3 := hb23
            refine hK.out _ _ (⟨hO.out u3 Bu3, Ku2.out u3 Bu23⟩) (fun hHeld => ?_)
            clear hK K
            refine wpAnyH_ready (rs := [19]) (by kernel_rfl) (by simp) ?_
            refine AllReadyH.cons (o := _) rfl (fun K hK => ?_) AllReadyH.nil
            go_simp
            refine (put_any [] (evNs Y) none aou3 0 0 q1 du3 u3 (RowIn.ofNil _ _) hrowu3 HMB.out (by omega)).mono ?_
            rintro r u4 ⟨rfl, ownu4, hb⟩
            rw [Nat.zero_add] at ownu4 ⊢
            rw [List.nil_append] at ownu4
            have Ru4 := RowIn.owned ownu4
            obtain ⟨gu4, hgu4⟩ : ∃ x, Hid (u3.heap.size = x) := ⟨_, rfl⟩
            rw [hgu4.out] at Ru4 ⊢
            have Bu4 : Below wc.heap.size wc u4 := Bu3.trans (hb.mono (Below.size Bu3))
            have Ku4 : Hid (∀ w', Below u4.heap.size u4 w' → (convert 40 9 (.slice (some ⟨gu4, 0, none⟩) (8 * q1) (8 * q1))).run Try.prog w' = .ok (.string sN) w') := fun w' h => by rw [← hsN.out]; exact conv_row (Ru4.below h)
            have Bu24 : Below u2.heap.size u2 u4 := Bu23.trans (hb.mono Bu23.size)
            clear ownu4 Ru4 hrowu3
            refine hK.out _ _ (⟨hO.out u4 Bu4, Ku2.out u4 Bu24⟩) (fun hHeld => ?_)
            clear hK K
            refine wpAnyH_strong (S' := fun w' => ((w'.heap[hx]? = some (.cells cx.toArray 38 (0, 0)) ∧ w'.heap[hy]? = some (.cells cy.toArray 38 (0, 0))) ∧ (convert 40 9 (.slice (some ⟨gu2, 0, none⟩) (8 * q1) (8 * q1))).run Try.prog w' = .ok (.string sN) w') ∧ (convert 40 9 (.slice (some ⟨gu4, 0, none⟩) (8 * q1) (8 * q1))).run Try.prog w' = .ok (.string sN) w') (fun w h => h.1) _ _ _ _ ?_
            replace hHeld := And.intro hHeld (Ku4.out u4 (Below.refl _ _))
            refine take_set (i := 20) (v := .string sN) rfl rfl (by kernel_rfl) (by kernel_rfl) (by kernel_rfl) (fun _ _ _ h => h) (Or.inl ⟨by kernel_rfl, fun w' hSw => ?_⟩) hHeld ?_
            · (have q := hSw.2; clear hSw; go_simp)
            simp only [List.set_cons_succ, List.set_cons_zero]
            refine take_set (i := 21) (v := .bool false) rfl rfl (by kernel_rfl) (by kernel_rfl) (by kernel_rfl) (fun _ _ _ h => h) (Or.inl ⟨by kernel_rfl, fun w' hSw => ?_⟩) hHeld ?_
            · go_simp
            simp only [List.set_cons_succ, List.set_cons_zero]
            refine take_set (i := 22) (v := .bool false) rfl rfl (by kernel_rfl) (by kernel_rfl) (by kernel_rfl) (fun _ _ _ h => h) (Or.inl ⟨by kernel_rfl, fun w' hSw => ?_⟩) hHeld ?_
            · go_simp
            simp only [List.set_cons_succ, List.set_cons_zero]
            refine take_set (i := 23) (v := .bool false) rfl rfl (by kernel_rfl) (by kernel_rfl) (by kernel_rfl) (fun _ _ _ h => h) (Or.inl ⟨by kernel_rfl, fun w' hSw => ?_⟩) hHeld ?_
            · go_simp
            simp only [List.set_cons_succ, List.set_cons_zero]
            refine take_set (i := 24) (v := .pointer (some ⟨hx, 0, none⟩)) rfl rfl (by kernel_rfl) (by kernel_rfl) (by kernel_rfl) (fun _ _ _ h => h) (Or.inl ⟨by kernel_rfl, fun w' hSw => ?_⟩) hHeld ?_
            · go_simp
            simp only [List.set_cons_succ, List.set_cons_zero]
            refine take_set (i := 25) (v := .int .i64 1) rfl rfl (by kernel_rfl) (by kernel_rfl) (by kernel_rfl) (fun _ _ _ h => h) (Or.inl ⟨by kernel_rfl, fun w' hSw => ?_⟩) hHeld ?_
            · (have q : w'.cell? ⟨hx, 0, none⟩ = some (.int .i64 1) := (cell_of_row w' hx 0 _ _ _ hSw.1.1.1).trans KX0.out; clear hSw; go_simp)
            simp only [List.set_cons_succ, List.set_cons_zero]
            refine take_set (i := 26) (v := .bool false) rfl rfl (by kernel_rfl) (by kernel_rfl) (by kernel_rfl) (fun _ _ _ h => h) (Or.inl ⟨by kernel_rfl, fun w' hSw => ?_⟩) hHeld ?_
            · go_simp
            simp only [List.set_cons_succ, List.set_cons_zero]
            refine take_set (i := 27) (v := .bool false) rfl rfl (by kernel_rfl) (by kernel_rfl) (by kernel_rfl) (fun _ _ _ h => h) (Or.inl ⟨by kernel_rfl, fun w' hSw => ?_⟩) hHeld ?_
            · go_simp
            simp only [List.set_cons_succ, List.set_cons_zero]
            refine take_set (i := 28) (v := undef) rfl rfl (by kernel_rfl) (by kernel_rfl) (by kernel_rfl) (fun _ _ _ h => h) (Or.inr ⟨by kernel_rfl, rfl⟩) hHeld ?_
            simp only [List.set_cons_succ, List.set_cons_zero]
            refine take_set (i := 29) (v := undef) rfl rfl (by kernel_rfl) (by kernel_rfl) (by kernel_rfl) (fun _ _ _ h => h) (Or.inr ⟨by kernel_rfl, rfl⟩) hHeld ?_
            simp only [List.set_cons_succ, List.set_cons_zero]
            refine take_set (i := 30) (v := undef) rfl rfl (by kernel_rfl) (by kernel_rfl) (by kernel_rfl) (fun _ _ _ h => h) (Or.inr ⟨by kernel_rfl, rfl⟩) hHeld ?_
            simp only [List.set_cons_succ, List.set_cons_zero]
            refine take_set (i := 31) (v := undef) rfl rfl (by kernel_rfl) (by kernel_rfl) (by kernel_rfl) (fun _ _ _ h => h) (Or.inr ⟨by kernel_rfl, rfl⟩) hHeld ?_
            simp only [List.set_cons_succ, List.set_cons_zero]
            refine take_set (i := 32) (v := undef) rfl rfl (by kernel_rfl) (by kernel_rfl) (by kernel_rfl) (fun _ _ _ h => h) (Or.inr ⟨by kernel_rfl, rfl⟩) hHeld ?_
            simp only [List.set_cons_succ, List.set_cons_zero]
            refine take_set (i := 33) (v := undef) rfl rfl (by kernel_rfl) (by kernel_rfl) (by kernel_rfl) (fun _ _ _ h => h) (Or.inr ⟨by kernel_rfl, rfl⟩) hHeld ?_
            simp only [List.set_cons_succ, List.set_cons_zero]
            refine take_set (i := 34) (v := undef) rfl rfl (by kernel_rfl) (by kernel_rfl) (by kernel_rfl) (fun _ _ _ h => h) (Or.inr ⟨by kernel_rfl, rfl⟩) hHeld ?_
            simp only [List.set_cons_succ, List.set_cons_zero]
            refine take_set (i := 35) (v := undef) rfl rfl (by kernel_rfl) (by kernel_rfl) (by kernel_rfl) (fun _ _ _ h => h) (Or.inr ⟨by kernel_rfl, rfl⟩) hHeld ?_
            simp only [List.set_cons_succ, List.set_cons_zero]
            refine take_set (i := 36) (v := .bool false) rfl rfl (by kernel_rfl) (by kernel_rfl) (by kernel_rfl) (fun _ _ _ h => h) (Or.inl ⟨by kernel_rfl, fun w' hSw => ?_⟩) hHeld ?_
            · go_simp
            simp only [List.set_cons_succ, List.set_cons_zero]
            refine take_set (i := 37) (v := .bool false) rfl rfl (by kernel_rfl) (by kernel_rfl) (by kernel_rfl) (fun _ _ _ h => h) (Or.inl ⟨by kernel_rfl, fun w' hSw => ?_⟩) hHeld ?_
            · go_simp
            simp only [List.set_cons_succ, List.set_cons_zero]
            refine take_set (i := 38) (v := .bool false) rfl rfl (by kernel_rfl) (by kernel_rfl) (by kernel_rfl) (fun _ _ _ h => h) (Or.inl ⟨by kernel_rfl, fun w' hSw => ?_⟩) hHeld ?_
            · go_simp
            simp only [List.set_cons_succ, List.set_cons_zero]
            refine take_set (i := 39) (v := .pointer (some ⟨hx, 0, none⟩)) rfl rfl (by kernel_rfl) (by kernel_rfl) (by kernel_rfl) (fun _ _ _ h => h) (Or.inl ⟨by kernel_rfl, fun w' hSw => ?_⟩) hHeld ?_
            · go_simp
            simp only [List.set_cons_succ, List.set_cons_zero]
            refine take_set (i := 40) (v := .int .i64 1) rfl rfl (by kernel_rfl) (by kernel_rfl) (by kernel_rfl) (fun _ _ _ h => h) (Or.inl ⟨by kernel_rfl, fun w' hSw => ?_⟩) hHeld ?_
            · (have q : w'.cell? ⟨hx, 0, none⟩ = some (.int .i64 1) := (cell_of_row w' hx 0 _ _ _ hSw.1.1.1).trans KX0.out; clear hSw; go_simp)
            simp only [List.set_cons_succ, List.set_cons_zero]
            refine take_set (i := 41) (v := .bool true) rfl rfl (by kernel_rfl) (by kernel_rfl) (by kernel_rfl) (fun _ _ _ h => h) (Or.inl ⟨by kernel_rfl, fun w' hSw => ?_⟩) hHeld ?_
            · go_simp
            simp only [List.set_cons_succ, List.set_cons_zero]
            refine take_set (i := 42) (v := .bool true) rfl rfl (by kernel_rfl) (by kernel_rfl) (by kernel_rfl) (fun _ _ _ h => h) (Or.inl ⟨by kernel_rfl, fun w' hSw => ?_⟩) hHeld ?_
            · go_simp
            simp only [List.set_cons_succ, List.set_cons_zero]
            refine take_set (i := 43) (v := .pointer (some ⟨hx, 7, none⟩)) rfl rfl (by kernel_rfl) (by kernel_rfl) (by kernel_rfl) (fun _ _ _ h => h) (Or.inl ⟨by kernel_rfl, fun w' hSw => ?_⟩) hHeld ?_
            · go_simp
            simp only [List.set_cons_succ, List.set_cons_zero]
            refine take_set (i := 44) (v := .pointer (some ⟨hx, 13, none⟩)) rfl rfl (by kernel_rfl) (by kernel_rfl) (by kernel_rfl) (fun _ _ _ h => h) (Or.inl ⟨by kernel_rfl, fun w' hSw => ?_⟩) hHeld ?_
            · go_simp
            simp only [List.set_cons_succ, List.set_cons_zero]
            refine take_set (i := 45) (v := .slice a3 0 c3) rfl rfl (by kernel_rfl) (by kernel_rfl) (by kernel_rfl) (fun _ _ _ h => h) (Or.inl ⟨by kernel_rfl, fun w' hSw => ?_⟩) hHeld ?_
            · (have q : w'.cell? ⟨hx, 13, none⟩ = some (.slice a3 0 c3) := (cell_of_row w' hx 13 _ _ _ hSw.1.1.1).trans KX13.out; clear hSw; go_simp)
            simp only [List.set_cons_succ, List.set_cons_zero]
            refine take_set (i := 46) (v := .int .i64 0) rfl rfl (by kernel_rfl) (by kernel_rfl) (by kernel_rfl) (fun _ _ _ h => h) (Or.inl ⟨by kernel_rfl, fun w' hSw => ?_⟩) hHeld ?_
            · go_simp
            simp only [List.set_cons_succ, List.set_cons_zero]
            refine take_set (i := 47) (v := .bool false) rfl rfl (by kernel_rfl) (by kernel_rfl) (by kernel_rfl) (fun _ _ _ h => h) (Or.inl ⟨by kernel_rfl, fun w' hSw => ?_⟩) hHeld ?_
            · go_simp
            simp only [List.set_cons_succ, List.set_cons_zero]
            refine take_set (i := 48) (v := .bool false) rfl rfl (by kernel_rfl) (by kernel_rfl) (by kernel_rfl) (fun _ _ _ h => h) (Or.inl ⟨by kernel_rfl, fun w' hSw => ?_⟩) hHeld ?_
            · go_simp
            simp only [List.set_cons_succ, List.set_cons_zero]
            refine take_set (i := 49) (v := .bool false) rfl rfl (by kernel_rfl) (by kernel_rfl) (by kernel_rfl) (fun _ _ _ h => h) (Or.inl ⟨by kernel_rfl, fun w' hSw => ?_⟩) hHeld ?_
            · go_simp
            simp only [List.set_cons_succ, List.set_cons_zero]
            refine take_set (i := 50) (v := .bool false) rfl rfl (by kernel_rfl) (by kernel_rfl) (by kernel_rfl) (fun _ _ _ h => h) (Or.inl ⟨by kernel_rfl, fun w' hSw => ?_⟩) hHeld ?_
            · go_simp
            simp only [List.set_cons_succ, List.set_cons_zero]
            refine take_set (i := 51) (v := .pointer (some ⟨hx, 0, none⟩)) rfl rfl (by kernel_rfl) (by kernel_rfl) (by kernel_rfl) (fun _ _ _ h => h) (Or.inl ⟨by kernel_rfl, fun w' hSw => ?_⟩) hHeld ?_
            · go_simp
            simp only [List.set_cons_succ, List.set_cons_zero]
            refine take_set (i := 52) (v := .int .i64 1) rfl rfl (by kernel_rfl) (by kernel_rfl) (by kernel_rfl) (fun _ _ _ h => h) (Or.inl ⟨by kernel_rfl, fun w' hSw => ?_⟩) hHeld ?_
            · (have q : w'.cell? ⟨hx, 0, none⟩ = some (.int .i64 1) := (cell_of_row w' hx 0 _ _ _ hSw.1.1.1).trans KX0.out; clear hSw; go_simp)
            simp only [List.set_cons_succ, List.set_cons_zero]
            refine take_set (i := 53) (v := .bool true) rfl rfl (by kernel_rfl) (by kernel_rfl) (by kernel_rfl) (fun _ _ _ h => h) (Or.inl ⟨by kernel_rfl, fun w' hSw => ?_⟩) hHeld ?_
            · go_simp
            simp only [List.set_cons_succ, List.set_cons_zero]
            refine take_set (i := 54) (v := .bool true) rfl rfl (by kernel_rfl) (by kernel_rfl) (by kernel_rfl) (fun _ _ _ h => h) (Or.inl ⟨by kernel_rfl, fun w' hSw => ?_⟩) hHeld ?_
            · go_simp
            simp only [List.set_cons_succ, List.set_cons_zero]
            refine take_set (i := 55) (v := .pointer (some ⟨hx, 14, none⟩)) rfl rfl (by kernel_rfl) (by kernel_rfl) (by kernel_rfl) (fun _ _ _ h => h) (Or.inl ⟨by kernel_rfl, fun w' hSw => ?_⟩) hHeld ?_
            · go_simp
            simp only [List.set_cons_succ, List.set_cons_zero]
            refine take_set (i := 56) (v := .pointer (some ⟨hx, 14, none⟩)) rfl rfl (by kernel_rfl) (by kernel_rfl) (by kernel_rfl) (fun _ _ _ h => h) (Or.inl ⟨by kernel_rfl, fun w' hSw => ?_⟩) hHeld ?_
            · go_simp
            simp only [List.set_cons_succ, List.set_cons_zero]
            refine take_set (i := 57) (v := .pointer (some ⟨hx, 20, none⟩)) rfl rfl (by kernel_rfl) (by kernel_rfl) (by kernel_rfl) (fun _ _ _ h => h) (Or.inl ⟨by kernel_rfl, fun w' hSw => ?_⟩) hHeld ?_
            · go_simp
            simp only [List.set_cons_succ, List.set_cons_zero]
            refine take_set (i := 58) (v := .slice a4 0 c4) rfl rfl (by kernel_rfl) (by kernel_rfl) (by kernel_rfl) (fun _ _ _ h => h) (Or.inl ⟨by kernel_rfl, fun w' hSw => ?_⟩) hHeld ?_
            · (have q : w'.cell? ⟨hx, 20, none⟩ = some (.slice a4 0 c4) := (cell_of_row w' hx 20 _ _ _ hSw.1.1.1).trans KX20.out; clear hSw; go_simp)
            simp only [List.set_cons_succ, List.set_cons_zero]
            refine take_set (i := 59) (v := .int .i64 0) rfl rfl (by kernel_rfl) (by kernel_rfl) (by kernel_rfl) (fun _ _ _ h => h) (Or.inl ⟨by kernel_rfl, fun w' hSw => ?_⟩) hHeld ?_
            · go_simp
            simp only [List.set_cons_succ, List.set_cons_zero]
            refine take_set (i := 60) (v := .bool false) rfl rfl (by kernel_rfl) (by kernel_rfl) (by kernel_rfl) (fun _ _ _ h => h) (Or.inl ⟨by kernel_rfl, fun w' hSw => ?_⟩) hHeld ?_
            · go_simp
            simp only [List.set_cons_succ, List.set_cons_zero]
            refine take_set (i := 61) (v := .bool false) rfl rfl (by kernel_rfl) (by kernel_rfl) (by kernel_rfl) (fun _ _ _ h => h) (Or.inl ⟨by kernel_rfl, fun w' hSw => ?_⟩) hHeld ?_
            · go_simp
            simp only [List.set_cons_succ, List.set_cons_zero]
            refine take_set (i := 62) (v := .bool false) rfl rfl (by kernel_rfl) (by kernel_rfl) (by kernel_rfl) (fun _ _ _ h => h) (Or.inl ⟨by kernel_rfl, fun w' hSw => ?_⟩) hHeld ?_
            · go_simp
            simp only [List.set_cons_succ, List.set_cons_zero]
            refine wpAnyH_done (by kernel_rfl) ?_ _
            refine NoPanic.normal ?_
            have HJ4 : Hid (Below v5.heap.size v5 u4) := HBC.out.trans (Bu4.mono HBC.out.size)
            clear Bu1 Bu2 Bu3 Bu4 Bu23 Bu24 hb23 hml
            clear hHeld hdr hxx hxy hlx hly KX0 KX1 KY0 KY1 HL2 HMB hsN Ku2 Ku4 hO hq1 HCXX HCY HYB hY hsa
            go_wp2
            go_roundw
            case rel => exact ⟨j + 1, by omega, by go_num, HJ4⟩
            case measure => simp [intOf]; omega
          · rw [hbe] at HCXX HCY
            have HYB : Hid (evB ⟨2, 0, bkZ, e.vote, pfZ⟩ = true) := by rw [← hbe]; exact bare_evB HOK.out
            obtain ⟨Y, hY⟩ : ∃ y : Ev, Hid (⟨2, 0, bkZ, e.vote, pfZ⟩ = y) := ⟨_, rfl⟩
            obtain ⟨a1, l1, c1, a2, l2, c2, a3, l3, c3, a4, l4, c4, a5, l5, c5, hX⟩ := HCXX.out.out
            obtain ⟨b1, m1, k1, b2, m2, k2, b3, m3, k3, b4, m4, k4, b5, m5, k5, hZ⟩ := HCY.out.out
            have e4 : l4 = 0 := (vote_len hX.pa).symm
            subst e4
            have KX0 : Hid (cx.toArray[0]? = some (.int .i64 2)) := show _ = _ by rw [hX.cells]; rfl
            have KX1 : Hid (cx.toArray[1]? = some (.int .i64 0)) := show _ = _ by rw [hX.cells]; rfl
            have KY0 : Hid (cy.toArray[0]? = some (.int .i64 2)) := show _ = _ by rw [hZ.cells]; rfl
            have KY1 : Hid (cy.toArray[1]? = some (.int .i64 0)) := show _ = _ by rw [hZ.cells]; rfl
            have KX2 : Hid (cx.toArray[2]? = some (.int .u64 0)) := show _ = _ by rw [hX.cells]; rfl
            have KX3 : Hid (cx.toArray[3]? = some (.int .u64 0)) := show _ = _ by rw [hX.cells]; rfl
            have KX20 : Hid (cx.toArray[20]? = some (.slice a4 0 c4)) := show _ = _ by rw [hX.cells]; rfl
            rw [hY.out] at HCXX HCY HYB
            have hml := evNs_len Y HYB.out
            have HMB := hide (evNs_b Y HCXX.out HYB.out)
            obtain ⟨q1, hq1⟩ : ∃ x, Hid ((evNs Y).length = x) := ⟨_, rfl⟩
            rw [hq1.out] at hml
            obtain ⟨sN, hsN⟩ : ∃ x, Hid (strOfNums (flat (evNs Y)) = x) := ⟨_, rfl⟩
            clear hX hZ hbe
            have hdr : Below wc.heap.size wc wc.drew := (Below.refl _ _).drew
            have hO : Hid (∀ w', Below wc.heap.size wc w' → w'.heap[hx]? = some (.cells cx.toArray 38 (0, 0)) ∧ w'.heap[hy]? = some (.cells cy.toArray 38 (0, 0))) := fun w' h => ⟨(h.block _ hlx).trans hxx, (h.block _ hly).trans hxy⟩
            refine wp_region_noPanic ?_
            refine wp_region_held_drew (S := fun w' => w'.heap[hx]? = some (.cells cx.toArray 38 (0, 0)) ∧ w'.heap[hy]? = some (.cells cy.toArray 38 (0, 0))) (by kernel_rfl) (hO.out _ hdr) (fun hHeld => ?_)
            refine take_set (i := 0) (v := .pointer (some ⟨hx, 0, none⟩)) rfl rfl (by kernel_rfl) (by kernel_rfl) (by kernel_rfl) (fun _ _ _ h => h) (Or.inl ⟨by kernel_rfl, fun w' hSw => ?_⟩) hHeld ?_
            · go_simp
            simp only [List.set_cons_succ, List.set_cons_zero]
            refine take_set (i := 1) (v := .int .i64 2) rfl rfl (by kernel_rfl) (by kernel_rfl) (by kernel_rfl) (fun _ _ _ h => h) (Or.inl ⟨by kernel_rfl, fun w' hSw => ?_⟩) hHeld ?_
            · (have q : w'.cell? ⟨hx, 0, none⟩ = some (.int .i64 2) := (cell_of_row w' hx 0 _ _ _ hSw.1).trans KX0.out; clear hSw; go_simp)
            simp only [List.set_cons_succ, List.set_cons_zero]
            refine take_set (i := 2) (v := .pointer (some ⟨hy, 0, none⟩)) rfl rfl (by kernel_rfl) (by kernel_rfl) (by kernel_rfl) (fun _ _ _ h => h) (Or.inl ⟨by kernel_rfl, fun w' hSw => ?_⟩) hHeld ?_
            · go_simp
            simp only [List.set_cons_succ, List.set_cons_zero]
            refine take_set (i := 3) (v := .int .i64 2) rfl rfl (by kernel_rfl) (by kernel_rfl) (by kernel_rfl) (fun _ _ _ h => h) (Or.inl ⟨by kernel_rfl, fun w' hSw => ?_⟩) hHeld ?_
            · (have q : w'.cell? ⟨hy, 0, none⟩ = some (.int .i64 2) := (cell_of_row w' hy 0 _ _ _ hSw.2).trans KY0.out; clear hSw; go_simp)
            simp only [List.set_cons_succ, List.set_cons_zero]
            refine take_set (i := 4) (v := .bool false) rfl rfl (by kernel_rfl) (by kernel_rfl) (by kernel_rfl) (fun _ _ _ h => h) (Or.inl ⟨by kernel_rfl, fun w' hSw => ?_⟩) hHeld ?_
            · go_simp
            simp only [List.set_cons_succ, List.set_cons_zero]
            refine take_set (i := 5) (v := .bool false) rfl rfl (by kernel_rfl) (by kernel_rfl) (by kernel_rfl) (fun _ _ _ h => h) (Or.inl ⟨by kernel_rfl, fun w' hSw => ?_⟩) hHeld ?_
            · go_simp
            simp only [List.set_cons_succ, List.set_cons_zero]
            refine take_set (i := 6) (v := .pointer (some ⟨hx, 1, none⟩)) rfl rfl (by kernel_rfl) (by kernel_rfl) (by kernel_rfl) (fun _ _ _ h => h) (Or.inl ⟨by kernel_rfl, fun w' hSw => ?_⟩) hHeld ?_
            · go_simp
            simp only [List.set_cons_succ, List.set_cons_zero]
            refine take_set (i := 7) (v := .int .i64 0) rfl rfl (by kernel_rfl) (by kernel_rfl) (by kernel_rfl) (fun _ _ _ h => h) (Or.inl ⟨by kernel_rfl, fun w' hSw => ?_⟩) hHeld ?_
            · (have q : w'.cell? ⟨hx, 1, none⟩ = some (.int .i64 0) := (cell_of_row w' hx 1 _ _ _ hSw.1).trans KX1.out; clear hSw; go_simp)
            simp only [List.set_cons_succ, List.set_cons_zero]
            refine take_set (i := 8) (v := .pointer (some ⟨hy, 1, none⟩)) rfl rfl (by kernel_rfl) (by kernel_rfl) (by kernel_rfl) (fun _ _ _ h => h) (Or.inl ⟨by kernel_rfl, fun w' hSw => ?_⟩) hHeld ?_
            · go_simp
            simp only [List.set_cons_succ, List.set_cons_zero]
            refine take_set (i := 9) (v := .int .i64 0) rfl rfl (by kernel_rfl) (by kernel_rfl) (by kernel_rfl) (fun _ _ _ h => h) (Or.inl ⟨by kernel_rfl, fun w' hSw => ?_⟩) hHeld ?_
            · (have q : w'.cell? ⟨hy, 1, none⟩ = some (.int .i64 0) := (cell_of_row w' hy 1 _ _ _ hSw.2).trans KY1.out; clear hSw; go_simp)
            simp only [List.set_cons_succ, List.set_cons_zero]
            refine take_set (i := 10) (v := .bool false) rfl rfl (by kernel_rfl) (by kernel_rfl) (by kernel_rfl) (fun _ _ _ h => h) (Or.inl ⟨by kernel_rfl, fun w' hSw => ?_⟩) hHeld ?_
            · go_simp
            simp only [List.set_cons_succ, List.set_cons_zero]
            refine take_set (i := 11) (v := .bool false) rfl rfl (by kernel_rfl) (by kernel_rfl) (by kernel_rfl) (fun _ _ _ h => h) (Or.inl ⟨by kernel_rfl, fun w' hSw => ?_⟩) hHeld ?_
            · go_simp
            simp only [List.set_cons_succ, List.set_cons_zero]
            refine take_set (i := 12) (v := .bool false) rfl rfl (by kernel_rfl) (by kernel_rfl) (by kernel_rfl) (fun _ _ _ h => h) (Or.inl ⟨by kernel_rfl, fun w' hSw => ?_⟩) hHeld ?_
            · go_simp
            simp only [List.set_cons_succ, List.set_cons_zero]
            refine take_part (i := 13) hx 0 cx 38 (.tmp 11) _ HL2.out.1 infoEv Try.underlying38 rfl rfl (by kernel_rfl) (by kernel_rfl) (by kernel_rfl) (fun _ _ _ h => h) (by kernel_rfl) rfl rfl hHeld (fun w' h => range_obj w' h.1) ?_
            simp only [List.set_cons_succ, List.set_cons_zero]
            refine take_part (i := 17) hy 0 cy 38 (.tmp 12) _ HL2.out.2 infoEv Try.underlying38 rfl rfl (by kernel_rfl) (by kernel_rfl) (by kernel_rfl) (fun _ _ _ h => h) (by kernel_rfl) rfl rfl hHeld (fun w' h => range_obj w' h.2) ?_
            simp only [List.set_cons_succ, List.set_cons_zero]
            refine wpAnyH_ready (rs := [14]) (by kernel_rfl) (by simp) ?_
            refine AllReadyH.cons (o := _) rfl (fun K hK => ?_) AllReadyH.nil
            go_simp
            refine (lnum_any Y _ wc.drew (HCXX.out.below hdr) HYB.out).mono ?_
            rintro r u1 ⟨vv, rfl, hr, hb⟩
            obtain ⟨aou1, du1, rfl, hrowu1⟩ := hr.form
            rw [hq1.out] at hrowu1 ⊢
            have Bu1 : Below wc.heap.size wc u1 := Below.trans hdr (hb.mono (Below.size hdr))
            clear hr hb
            refine hK.out _ _ (hO.out u1 Bu1) (fun hHeld => ?_)
            clear hK K
            refine wpAnyH_ready (rs := [15]) (by kernel_rfl) (by simp) ?_
            refine AllReadyH.cons (o := _) rfl (fun K hK => ?_) AllReadyH.nil
            go_simp
            refine (put_any [] (evNs Y) none aou1 0 0 q1 du1 u1 (RowIn.ofNil _ _) hrowu1 HMB.out (by omega)).mono ?_
            rintro r u2 ⟨rfl, ownu2, hb⟩
            rw [Nat.zero_add] at ownu2 ⊢
            rw [List.nil_append] at ownu2
            have Ru2 := RowIn.owned ownu2
            obtain ⟨gu2, hgu2⟩ : ∃ x, Hid (u1.heap.size = x) := ⟨_, rfl⟩
            rw [hgu2.out] at Ru2 ⊢
            have Bu2 : Below wc.heap.size wc u2 := Bu1.trans (hb.mono (Below.size Bu1))
            have Ku2 : Hid (∀ w', Below u2.heap.size u2 w' → (convert 40 9 (.slice (some ⟨gu2, 0, none⟩) (8 * q1) (8 * q1))).run Try.prog w' = .ok (.string sN) w') := fun w' h => by rw [← hsN.out]; exact conv_row (Ru2.below h)
            clear ownu2 Ru2 hrowu1
            refine hK.out _ _ (hO.out u2 Bu2) (fun hHeld => ?_)
            clear hK K
            refine wpAnyH_strong (S' := fun w' => (w'.heap[hx]? = some (.cells cx.toArray 38 (0, 0)) ∧ w'.heap[hy]? = some (.cells cy.toArray 38 (0, 0))) ∧ (convert 40 9 (.slice (some ⟨gu2, 0, none⟩) (8 * q1) (8 * q1))).run Try.prog w' = .ok (.string sN) w') (fun w h => h.1) _ _ _ _ ?_
            replace hHeld := And.intro hHeld (Ku2.out u2 (Below.refl _ _))
            refine take_set (i := 16) (v := .string sN) rfl rfl (by kernel_rfl) (by kernel_rfl) (by kernel_rfl) (fun _ _ _ h => h) (Or.inl ⟨by kernel_rfl, fun w' hSw => ?_⟩) hHeld ?_
            · (have q := hSw.2; clear hSw; go_simp)
            simp only [List.set_cons_succ, List.set_cons_zero]
            refine wpAnyH_ready (rs := [18]) (by kernel_rfl) (by simp) ?_
            refine AllReadyH.cons (o := _) rfl (fun K hK => ?_) AllReadyH.nil
            go_simp
            refine (lnum_any Y _ u2 (HCY.out.below Bu2) HYB.out).mono ?_
            rintro r u3 ⟨vv, rfl, hr, hb⟩
            obtain ⟨aou3, du3, rfl, hrowu3⟩ := hr.form
            rw [hq1.out] at hrowu3 ⊢
            have Bu3 : Below wc.heap.size wc u3 := Below.trans Bu2 (hb.mono (Below.size Bu2))
            have hb23 := hb
            clear hr hb
            have Bu23 : Below u2.heap.size u2 u3 := hb23
            refine hK.out _ _ (⟨hO.out u3 Bu3, Ku2.out u3 Bu23⟩) (fun hHeld => ?_)
            clear hK K
            refine wpAnyH_ready (rs := [19]) (by kernel_rfl) (by simp) ?_
            refine AllReadyH.cons (o := _) rfl (fun K hK => ?_) AllReadyH.nil
            go_simp
            refine (put_any [] (evNs Y) none aou3 0 0 q1 du3 u3 (RowIn.ofNil _ _) hrowu3 HMB.out (by omega)).mono ?_
            rintro r u4 ⟨rfl, ownu4, hb⟩
            rw [Nat.zero_add] at ownu4 ⊢
            rw [List.nil_append] at ownu4
            have Ru4 := RowIn.owned ownu4
            obtain ⟨gu4, hgu4⟩ : ∃ x, Hid (u3.heap.size = x) := ⟨_, rfl⟩
            rw [hgu4.out] at Ru4 ⊢
            have Bu4 : Below wc.heap.size wc u4 := Bu3.trans (hb.mono (Below.size Bu3))
            have Ku4 : Hid (∀ w', Below u4.heap.size u4 w' → (convert 40 9 (.slice (some ⟨gu4, 0, none⟩) (8 * q1) (8 * q1))).run Try.prog w' = .ok (.string sN) w') := fun w' h => by rw [← hsN.out]; exact conv_row (Ru4.below h)
            have Bu24 : Below u2.heap.size u2 u4 := Bu23.trans (hb.mono Bu23.size)
            clear ownu4 Ru4 hrowu3
            refine hK.out _ _ (⟨hO.out u4 Bu4, Ku2.out u4 Bu24⟩) (fun hHeld => ?_)
            clear hK K
            refine wpAnyH_strong (S' := fun w' => ((w'.heap[hx]? = some (.cells cx.toArray 38 (0, 0)) ∧ w'.heap[hy]? = some (.cells cy.toArray 38 (0, 0))) ∧ (convert 40 9 (.slice (some ⟨gu2, 0, none⟩) (8 * q1) (8 * q1))).run Try.prog w' = .ok (.string sN) w') ∧ (convert 40 9 (.slice (some ⟨gu4, 0, none⟩) (8 * q1) (8 * q1))).run Try.prog w' = .ok (.string sN) w') (fun w h => h.1) _ _ _ _ ?_
            replace hHeld := And.intro hHeld (Ku4.out u4 (Below.refl _ _))
            refine take_set (i := 20) (v := .string sN) rfl rfl (by kernel_rfl) (by kernel_rfl) (by kernel_rfl) (fun _ _ _ h => h) (Or.inl ⟨by kernel_rfl, fun w' hSw => ?_⟩) hHeld ?_
            · (have q := hSw.2; clear hSw; go_simp)
            simp only [List.set_cons_succ, List.set_cons_zero]
            refine take_set (i := 21) (v := .bool false) rfl rfl (by kernel_rfl) (by kernel_rfl) (by kernel_rfl) (fun _ _ _ h => h) (Or.inl ⟨by kernel_rfl, fun w' hSw => ?_⟩) hHeld ?_
            · go_simp
            simp only [List.set_cons_succ, List.set_cons_zero]
            refine take_set (i := 22) (v := .bool false) rfl rfl (by kernel_rfl) (by kernel_rfl) (by kernel_rfl) (fun _ _ _ h => h) (Or.inl ⟨by kernel_rfl, fun w' hSw => ?_⟩) hHeld ?_
            · go_simp
            simp only [List.set_cons_succ, List.set_cons_zero]
            refine take_set (i := 23) (v := .bool false) rfl rfl (by kernel_rfl) (by kernel_rfl) (by kernel_rfl) (fun _ _ _ h => h) (Or.inl ⟨by kernel_rfl, fun w' hSw => ?_⟩) hHeld ?_
            · go_simp
            simp only [List.set_cons_succ, List.set_cons_zero]
            refine take_set (i := 24) (v := .pointer (some ⟨hx, 0, none⟩)) rfl rfl (by kernel_rfl) (by kernel_rfl) (by kernel_rfl) (fun _ _ _ h => h) (Or.inl ⟨by kernel_rfl, fun w' hSw => ?_⟩) hHeld ?_
            · go_simp
            simp only [List.set_cons_succ, List.set_cons_zero]
            refine take_set (i := 25) (v := .int .i64 2) rfl rfl (by kernel_rfl) (by kernel_rfl) (by kernel_rfl) (fun _ _ _ h => h) (Or.inl ⟨by kernel_rfl, fun w' hSw => ?_⟩) hHeld ?_
            · (have q : w'.cell? ⟨hx, 0, none⟩ = some (.int .i64 2) := (cell_of_row w' hx 0 _ _ _ hSw.1.1.1).trans KX0.out; clear hSw; go_simp)
            simp only [List.set_cons_succ, List.set_cons_zero]
            refine take_set (i := 26) (v := .bool true) rfl rfl (by kernel_rfl) (by kernel_rfl) (by kernel_rfl) (fun _ _ _ h => h) (Or.inl ⟨by kernel_rfl, fun w' hSw => ?_⟩) hHeld ?_
            · go_simp
            simp only [List.set_cons_succ, List.set_cons_zero]
            refine take_set (i := 27) (v := .bool true) rfl rfl (by kernel_rfl) (by kernel_rfl) (by kernel_rfl) (fun _ _ _ h => h) (Or.inl ⟨by kernel_rfl, fun w' hSw => ?_⟩) hHeld ?_
            · go_simp
            simp only [List.set_cons_succ, List.set_cons_zero]
            refine take_set (i := 28) (v := .pointer (some ⟨hx, 2, none⟩)) rfl rfl (by kernel_rfl) (by kernel_rfl) (by kernel_rfl) (fun _ _ _ h => h) (Or.inl ⟨by kernel_rfl, fun w' hSw => ?_⟩) hHeld ?_
            · go_simp
            simp only [List.set_cons_succ, List.set_cons_zero]
            refine take_set (i := 29) (v := .pointer (some ⟨hx, 2, none⟩)) rfl rfl (by kernel_rfl) (by kernel_rfl) (by kernel_rfl) (fun _ _ _ h => h) (Or.inl ⟨by kernel_rfl, fun w' hSw => ?_⟩) hHeld ?_
            · go_simp
            simp only [List.set_cons_succ, List.set_cons_zero]
            refine take_set (i := 30) (v := .int .u64 0) rfl rfl (by kernel_rfl) (by kernel_rfl) (by kernel_rfl) (fun _ _ _ h => h) (Or.inl ⟨by kernel_rfl, fun w' hSw => ?_⟩) hHeld ?_
            · (have q : w'.cell? ⟨hx, 2, none⟩ = some (.int .u64 0) := (cell_of_row w' hx 2 _ _ _ hSw.1.1.1).trans KX2.out; clear hSw; go_simp)
            simp only [List.set_cons_succ, List.set_cons_zero]
            refine take_set (i := 31) (v := .pointer (some ⟨hx, 2, none⟩)) rfl rfl (by kernel_rfl) (by kernel_rfl) (by kernel_rfl) (fun _ _ _ h => h) (Or.inl ⟨by kernel_rfl, fun w' hSw => ?_⟩) hHeld ?_
            · go_simp
            simp only [List.set_cons_succ, List.set_cons_zero]
            refine take_set (i := 32) (v := .pointer (some ⟨hx, 3, none⟩)) rfl rfl (by kernel_rfl) (by kernel_rfl) (by kernel_rfl) (fun _ _ _ h => h) (Or.inl ⟨by kernel_rfl, fun w' hSw => ?_⟩) hHeld ?_
            · go_simp
            simp only [List.set_cons_succ, List.set_cons_zero]
            refine take_set (i := 33) (v := .int .u64 0) rfl rfl (by kernel_rfl) (by kernel_rfl) (by kernel_rfl) (fun _ _ _ h => h) (Or.inl ⟨by kernel_rfl, fun w' hSw => ?_⟩) hHeld ?_
            · (have q : w'.cell? ⟨hx, 3, none⟩ = some (.int .u64 0) := (cell_of_row w' hx 3 _ _ _ hSw.1.1.1).trans KX3.out; clear hSw; go_simp)
            simp only [List.set_cons_succ, List.set_cons_zero]
            refine take_set (i := 34) (v := .int .u64 0) rfl rfl (by kernel_rfl) (by kernel_rfl) (by kernel_rfl) (fun _ _ _ h => h) (Or.inl ⟨by kernel_rfl, fun w' hSw => ?_⟩) hHeld ?_
            · (go_simp; rw [IntKind.wrap_u64]; rfl)
            simp only [List.set_cons_succ, List.set_cons_zero]
            refine take_set (i := 35) (v := .bool false) rfl rfl (by kernel_rfl) (by kernel_rfl) (by kernel_rfl) (fun _ _ _ h => h) (Or.inl ⟨by kernel_rfl, fun w' hSw => ?_⟩) hHeld ?_
            · go_simp
            simp only [List.set_cons_succ, List.set_cons_zero]
            refine take_set (i := 36) (v := .bool false) rfl rfl (by kernel_rfl) (by kernel_rfl) (by kernel_rfl) (fun _ _ _ h => h) (Or.inl ⟨by kernel_rfl, fun w' hSw => ?_⟩) hHeld ?_
            · go_simp
            simp only [List.set_cons_succ, List.set_cons_zero]
            refine take_set (i := 37) (v := .bool false) rfl rfl (by kernel_rfl) (by kernel_rfl) (by kernel_rfl) (fun _ _ _ h => h) (Or.inl ⟨by kernel_rfl, fun w' hSw => ?_⟩) hHeld ?_
            · go_simp
            simp only [List.set_cons_succ, List.set_cons_zero]
            refine take_set (i := 38) (v := .bool false) rfl rfl (by kernel_rfl) (by kernel_rfl) (by kernel_rfl) (fun _ _ _ h => h) (Or.inl ⟨by kernel_rfl, fun w' hSw => ?_⟩) hHeld ?_
            · go_simp
            simp only [List.set_cons_succ, List.set_cons_zero]
            refine take_set (i := 39) (v := .pointer (some ⟨hx, 0, none⟩)) rfl rfl (by kernel_rfl) (by kernel_rfl) (by kernel_rfl) (fun _ _ _ h => h) (Or.inl ⟨by kernel_rfl, fun w' hSw => ?_⟩) hHeld ?_
            · go_simp
            simp only [List.set_cons_succ, List.set_cons_zero]
            refine take_set (i := 40) (v := .int .i64 2) rfl rfl (by kernel_rfl) (by kernel_rfl) (by kernel_rfl) (fun _ _ _ h => h) (Or.inl ⟨by kernel_rfl, fun w' hSw => ?_⟩) hHeld ?_
            · (have q : w'.cell? ⟨hx, 0, none⟩ = some (.int .i64 2) := (cell_of_row w' hx 0 _ _ _ hSw.1.1.1).trans KX0.out; clear hSw; go_simp)
            simp only [List.set_cons_succ, List.set_cons_zero]
            refine take_set (i := 41) (v := .bool false) rfl rfl (by kernel_rfl) (by kernel_rfl) (by kernel_rfl) (fun _ _ _ h => h) (Or.inl ⟨by kernel_rfl, fun w' hSw => ?_⟩) hHeld ?_
            · go_simp
            simp only [List.set_cons_succ, List.set_cons_zero]
            refine take_set (i := 42) (v := .bool false) rfl rfl (by kernel_rfl) (by kernel_rfl) (by kernel_rfl) (fun _ _ _ h => h) (Or.inl ⟨by kernel_rfl, fun w' hSw => ?_⟩) hHeld ?_
            · go_simp
            simp only [List.set_cons_succ, List.set_cons_zero]
            refine take_set (i := 43) (v := undef) rfl rfl (by kernel_rfl) (by kernel_rfl) (by kernel_rfl) (fun _ _ _ h => h) (Or.inr ⟨by kernel_rfl, rfl⟩) hHeld ?_
            simp only [List.set_cons_succ, List.set_cons_zero]
            refine take_set (i := 44) (v := undef) rfl rfl (by kernel_rfl) (by kernel_rfl) (by kernel_rfl) (fun _ _ _ h => h) (Or.inr ⟨by kernel_rfl, rfl⟩) hHeld ?_
            simp only [List.set_cons_succ, List.set_cons_zero]
            refine take_set (i := 45) (v := undef) rfl rfl (by kernel_rfl) (by kernel_rfl) (by kernel_rfl) (fun _ _ _ h => h) (Or.inr ⟨by kernel_rfl, rfl⟩) hHeld ?_
            simp only [List.set_cons_succ, List.set_cons_zero]
            refine take_set (i := 46) (v := undef) rfl rfl (by kernel_rfl) (by kernel_rfl) (by kernel_rfl) (fun _ _ _ h => h) (Or.inr ⟨by kernel_rfl, rfl⟩) hHeld ?_
            simp only [List.set_cons_succ, List.set_cons_zero]
            refine take_set (i := 47) (v := undef) rfl rfl (by kernel_rfl) (by kernel_rfl) (by kernel_rfl) (fun _ _ _ h => h) (Or.inr ⟨by kernel_rfl, rfl⟩) hHeld ?_
            simp only [List.set_cons_succ, List.set_cons_zero]
            refine take_set (i := 48) (v := .bool false) rfl rfl (by kernel_rfl) (by kernel_rfl) (by kernel_rfl) (fun _ _ _ h => h) (Or.inl ⟨by kernel_rfl, fun w' hSw => ?_⟩) hHeld ?_
            · go_simp
            simp only [List.set_cons_succ, List.set_cons_zero]
            refine take_set (i := 49) (v := .bool false) rfl rfl (by kernel_rfl) (by kernel_rfl) (by kernel_rfl) (fun _ _ _ h => h) (Or.inl ⟨by kernel_rfl, fun w' hSw => ?_⟩) hHeld ?_
            · go_simp
            simp only [List.set_cons_succ, List.set_cons_zero]
            refine take_set (i := 50) (v := .bool false) rfl rfl (by kernel_rfl) (by kernel_rfl) (by kernel_rfl) (fun _ _ _ h => h) (Or.inl ⟨by kernel_rfl, fun w' hSw => ?_⟩) hHeld ?_
            · go_simp
            simp only [List.set_cons_succ, List.set_cons_zero]
            refine take_set (i := 51) (v := .pointer (some ⟨hx, 0, none⟩)) rfl rfl (by kernel_rfl) (by kernel_rfl) (by kernel_rfl) (fun _ _ _ h => h) (Or.inl ⟨by kernel_rfl, fun w' hSw => ?_⟩) hHeld ?_
            · go_simp
            simp only [List.set_cons_succ, List.set_cons_zero]
            refine take_set (i := 52) (v := .int .i64 2) rfl rfl (by kernel_rfl) (by kernel_rfl) (by kernel_rfl) (fun _ _ _ h => h) (Or.inl ⟨by kernel_rfl, fun w' hSw => ?_⟩) hHeld ?_
            · (have q : w'.cell? ⟨hx, 0, none⟩ = some (.int .i64 2) := (cell_of_row w' hx 0 _ _ _ hSw.1.1.1).trans KX0.out; clear hSw; go_simp)
            simp only [List.set_cons_succ, List.set_cons_zero]
            refine take_set (i := 53) (v := .bool true) rfl rfl (by kernel_rfl) (by kernel_rfl) (by kernel_rfl) (fun _ _ _ h => h) (Or.inl ⟨by kernel_rfl, fun w' hSw => ?_⟩) hHeld ?_
            · go_simp
            simp only [List.set_cons_succ, List.set_cons_zero]
            refine take_set (i := 54) (v := .bool true) rfl rfl (by kernel_rfl) (by kernel_rfl) (by kernel_rfl) (fun _ _ _ h => h) (Or.inl ⟨by kernel_rfl, fun w' hSw => ?_⟩) hHeld ?_
            · go_simp
            simp only [List.set_cons_succ, List.set_cons_zero]
            refine take_set (i := 55) (v := .pointer (some ⟨hx, 14, none⟩)) rfl rfl (by kernel_rfl) (by kernel_rfl) (by kernel_rfl) (fun _ _ _ h => h) (Or.inl ⟨by kernel_rfl, fun w' hSw => ?_⟩) hHeld ?_
            · go_simp
            simp only [List.set_cons_succ, List.set_cons_zero]
            refine take_set (i := 56) (v := .pointer (some ⟨hx, 14, none⟩)) rfl rfl (by kernel_rfl) (by kernel_rfl) (by kernel_rfl) (fun _ _ _ h => h) (Or.inl ⟨by kernel_rfl, fun w' hSw => ?_⟩) hHeld ?_
            · go_simp
            simp only [List.set_cons_succ, List.set_cons_zero]
            refine take_set (i := 57) (v := .pointer (some ⟨hx, 20, none⟩)) rfl rfl (by kernel_rfl) (by kernel_rfl) (by kernel_rfl) (fun _ _ _ h => h) (Or.inl ⟨by kernel_rfl, fun w' hSw => ?_⟩) hHeld ?_
            · go_simp
            simp only [List.set_cons_succ, List.set_cons_zero]
            refine take_set (i := 58) (v := .slice a4 0 c4) rfl rfl (by kernel_rfl) (by kernel_rfl) (by kernel_rfl) (fun _ _ _ h => h) (Or.inl ⟨by kernel_rfl, fun w' hSw => ?_⟩) hHeld ?_
            · (have q : w'.cell? ⟨hx, 20, none⟩ = some (.slice a4 0 c4) := (cell_of_row w' hx 20 _ _ _ hSw.1.1.1).trans KX20.out; clear hSw; go_simp)
            simp only [List.set_cons_succ, List.set_cons_zero]
            refine take_set (i := 59) (v := .int .i64 0) rfl rfl (by kernel_rfl) (by kernel_rfl) (by kernel_rfl) (fun _ _ _ h => h) (Or.inl ⟨by kernel_rfl, fun w' hSw => ?_⟩) hHeld ?_
            · go_simp
            simp only [List.set_cons_succ, List.set_cons_zero]
            refine take_set (i := 60) (v := .bool false) rfl rfl (by kernel_rfl) (by kernel_rfl) (by kernel_rfl) (fun _ _ _ h => h) (Or.inl ⟨by kernel_rfl, fun w' hSw => ?_⟩) hHeld ?_
            · go_simp
            simp only [List.set_cons_succ, List.set_cons_zero]
            refine take_set (i := 61) (v := .bool false) rfl rfl (by kernel_rfl) (by kernel_rfl) (by kernel_rfl) (fun _ _ _ h => h) (Or.inl ⟨by kernel_rfl, fun w' hSw => ?_⟩) hHeld ?_
            · go_simp
            simp only [List.set_cons_succ, List.set_cons_zero]
            refine take_set (i := 62) (v := .bool false) rfl rfl (by kernel_rfl) (by kernel_rfl) (by kernel_rfl) (fun _ _ _ h => h) (Or.inl ⟨by kernel_rfl, fun w' hSw => ?_⟩) hHeld ?_
            · go_simp
            simp only [List.set_cons_succ, List.set_cons_zero]
            refine wpAnyH_done (by kernel_rfl) ?_ _
            refine NoPanic.normal ?_
            have HJ4 : Hid (Below v5.heap.size v5 u4) := HBC.out.trans (Bu4.mono HBC.out.size)
            clear Bu1 Bu2 Bu3 Bu4 Bu23 Bu24 hb23 hml
            clear hHeld hdr hxx hxy hlx hly KX0 KX1 KY0 KY1 HL2 HMB hsN Ku2 Ku4 hO hq1 HCXX HCY HYB hY hsa
            go_wp2
            go_roundw
            case rel => exact ⟨j + 1, by omega, by go_num, HJ4⟩
            case measure => simp [intOf]; omega
          · rw [hbe] at HCXX HCY
            have HYB : Hid (evB ⟨3, 0, bkZ, vtZ, e.proof⟩ = true) := by rw [← hbe]; exact bare_evB HOK.out
            obtain ⟨Y, hY⟩ : ∃ y : Ev, Hid (⟨3, 0, bkZ, vtZ, e.proof⟩ = y) := ⟨_, rfl⟩
            obtain ⟨a1, l1, c1, a2, l2, c2, a3, l3, c3, a4, l4, c4, a5, l5, c5, hX⟩ := HCXX.out.out
            obtain ⟨b1, m1, k1, b2, m2, k2, b3, m3, k3, b4, m4, k4, b5, m5, k5, hZ⟩ := HCY.out.out
            have e3 : l3 = 0 := (vote_len hX.vote).symm
            subst e3
            have KX0 : Hid (cx.toArray[0]? = some (.int .i64 3)) := show _ = _ by rw [hX.cells]; rfl
            have KX1 : Hid (cx.toArray[1]? = some (.int .i64 0)) := show _ = _ by rw [hX.cells]; rfl
            have KY0 : Hid (cy.toArray[0]? = some (.int .i64 3)) := show _ = _ by rw [hZ.cells]; rfl
            have KY1 : Hid (cy.toArray[1]? = some (.int .i64 0)) := show _ = _ by rw [hZ.cells]; rfl
            have KX2 : Hid (cx.toArray[2]? = some (.int .u64 0)) := show _ = _ by rw [hX.cells]; rfl
            have KX3 : Hid (cx.toArray[3]? = some (.int .u64 0)) := show _ = _ by rw [hX.cells]; rfl
            have KX13 : Hid (cx.toArray[13]? = some (.slice a3 0 c3)) := show _ = _ by rw [hX.cells]; rfl
            rw [hY.out] at HCXX HCY HYB
            have hml := evNs_len Y HYB.out
            have HMB := hide (evNs_b Y HCXX.out HYB.out)
            obtain ⟨q1, hq1⟩ : ∃ x, Hid ((evNs Y).length = x) := ⟨_, rfl⟩
            rw [hq1.out] at hml
            obtain ⟨sN, hsN⟩ : ∃ x, Hid (strOfNums (flat (evNs Y)) = x) := ⟨_, rfl⟩
            clear hX hZ hbe
            have hdr : Below wc.heap.size wc wc.drew := (Below.refl _ _).drew
            have hO : Hid (∀ w', Below wc.heap.size wc w' → w'.heap[hx]? = some (.cells cx.toArray 38 (0, 0)) ∧ w'.heap[hy]? = some (.cells cy.toArray 38 (0, 0))) := fun w' h => ⟨(h.block _ hlx).trans hxx, (h.block _ hly).trans hxy⟩
            refine wp_region_noPanic ?_
            refine wp_region_held_drew (S := fun w' => w'.heap[hx]? = some (.cells cx.toArray 38 (0, 0)) ∧ w'.heap[hy]? = some (.cells cy.toArray 38 (0, 0))) (by kernel_rfl) (hO.out _ hdr) (fun hHeld => ?_)
            refine take_set (i := 0) (v := .pointer (some ⟨hx, 0, none⟩)) rfl rfl (by kernel_rfl) (by kernel_rfl) (by kernel_rfl) (fun _ _ _ h => h) (Or.inl ⟨by kernel_rfl, fun w' hSw => ?_⟩) hHeld ?_
            · go_simp
            simp only [List.set_cons_succ, List.set_cons_zero]
            refine take_set (i := 1) (v := .int .i64 3) rfl rfl (by kernel_rfl) (by kernel_rfl) (by kernel_rfl) (fun _ _ _ h => h) (Or.inl ⟨by kernel_rfl, fun w' hSw => ?_⟩) hHeld ?_
            · (have q : w'.cell? ⟨hx, 0, none⟩ = some (.int .i64 3) := (cell_of_row w' hx 0 _ _ _ hSw.1).trans KX0.out; clear hSw; go_simp)
            simp only [List.set_cons_succ, List.set_cons_zero]
            refine take_set (i := 2) (v := .pointer (some ⟨hy, 0, none⟩)) rfl rfl (by kernel_rfl) (by kernel_rfl) (by kernel_rfl) (fun _ _ _ h => h) (Or.inl ⟨by kernel_rfl, fun w' hSw => ?_⟩) hHeld ?_
            · go_simp
            simp only [List.set_cons_succ, List.set_cons_zero]
            refine take_set (i := 3) (v := .int .i64 3) rfl rfl (by kernel_rfl) (by kernel_rfl) (by kernel_rfl) (fun _ _ _ h => h) (Or.inl ⟨by kernel_rfl, fun w' hSw => ?_⟩) hHeld ?_
            · (have q : w'.cell? ⟨hy, 0, none⟩ = some (.int .i64 3) := (cell_of_row w' hy 0 _ _ _ hSw.2).trans KY0.out; clear hSw; go_simp)
            simp only [List.set_cons_succ, List.set_cons_zero]
            refine take_set (i := 4) (v := .bool false) rfl rfl (by kernel_rfl) (by kernel_rfl) (by kernel_rfl) (fun _ _ _ h => h) (Or.inl ⟨by kernel_rfl, fun w' hSw => ?_⟩) hHeld ?_
            · go_simp
            simp only [List.set_cons_succ, List.set_cons_zero]
            refine take_set (i := 5) (v := .bool false) rfl rfl (by kernel_rfl) (by kernel_rfl) (by kernel_rfl) (fun _ _ _ h => h) (Or.inl ⟨by kernel_rfl, fun w' hSw => ?_⟩) hHeld ?_
            · go_simp
            simp only [List.set_cons_succ, List.set_cons_zero]
            refine take_set (i := 6) (v := .pointer (some ⟨hx, 1, none⟩)) rfl rfl (by kernel_rfl) (by kernel_rfl) (by kernel_rfl) (fun _ _ _ h => h) (Or.inl ⟨by kernel_rfl, fun w' hSw => ?_⟩) hHeld ?_
            · go_simp
            simp only [List.set_cons_succ, List.set_cons_zero]
            refine take_set (i := 7) (v := .int .i64 0) rfl rfl (by kernel_rfl) (by kernel_rfl) (by kernel_rfl) (fun _ _ _ h => h) (Or.inl ⟨by kernel_rfl, fun w' hSw => ?_⟩) hHeld ?_
            · (have q : w'.cell? ⟨hx, 1, none⟩ = some (.int .i64 0) := (cell_of_row w' hx 1 _ _ _ hSw.1).trans KX1.out; clear hSw; go_simp)
            simp only [List.set_cons_succ, List.set_cons_zero]
            refine take_set (i := 8) (v := .pointer (some ⟨hy, 1, none⟩)) rfl rfl (by kernel_rfl) (by kernel_rfl) (by kernel_rfl) (fun _ _ _ h => h) (Or.inl ⟨by kernel_rfl, fun w' hSw => ?_⟩) hHeld ?_
            · go_simp
            simp only [List.set_cons_succ, List.set_cons_zero]
            refine take_set (i := 9) (v := .int .i64 0) rfl rfl (by kernel_rfl) (by kernel_rfl) (by kernel_rfl) (fun _ _ _ h => h) (Or.inl ⟨by kernel_rfl, fun w' hSw => ?_⟩) hHeld ?_
            · (have q : w'.cell? ⟨hy, 1, none⟩ = some (.int .i64 0) := (cell_of_row w' hy 1 _ _ _ hSw.2).trans KY1.out; clear hSw; go_simp)
            simp only [List.set_cons_succ, List.set_cons_zero]
            refine take_set (i := 10) (v := .bool false) rfl rfl (by kernel_rfl) (by kernel_rfl) (by kernel_rfl) (fun _ _ _ h => h) (Or.inl ⟨by kernel_rfl, fun w' hSw => ?_⟩) hHeld ?_
            · go_simp
            simp only [List.set_cons_succ, List.set_cons_zero]
            refine take_set (i := 11) (v := .bool false) rfl rfl (by kernel_rfl) (by kernel_rfl) (by kernel_rfl) (fun _ _ _ h => h) (Or.inl ⟨by kernel_rfl, fun w' hSw => ?_⟩) hHeld ?_
            · go_simp
            simp only [List.set_cons_succ, List.set_cons_zero]
            refine take_set (i := 12) (v := .bool false) rfl rfl (by kernel_rfl) (by kernel_rfl) (by kernel_rfl) (fun _ _ _ h => h) (Or.inl ⟨by kernel_rfl, fun w' hSw => ?_⟩) hHeld ?_
            · go_simp
            simp only [List.set_cons_succ, List.set_cons_zero]
            refine take_part (i := 13) hx 0 cx 38 (.tmp 11) _ HL2.out.1 infoEv Try.underlying38 rfl rfl (by kernel_rfl) (by kernel_rfl) (by kernel_rfl) (fun _ _ _ h => h) (by kernel_rfl) rfl rfl hHeld (fun w' h => range_obj w' h.1) ?_
            simp only [List.set_cons_succ, List.set_cons_zero]
            refine take_part (i := 17) hy 0 cy 38 (.tmp 12) _ HL2.out.2 infoEv Try.underlying38 rfl rfl (by kernel_rfl) (by kernel_rfl) (by kernel_rfl) (fun _ _ _ h => h) (by kernel_rfl) rfl rfl hHeld (fun w' h => range_obj w' h.2) ?_
            simp only [List.set_cons_succ, List.set_cons_zero]
            refine wpAnyH_ready (rs := [14]) (by kernel_rfl) (by simp) ?_
            refine AllReadyH.cons (o := _) rfl (fun K hK => ?_) AllReadyH.nil
            go_simp
            refine (lnum_any Y _ wc.drew (HCXX.out.below hdr) HYB.out).mono ?_
            rintro r u1 ⟨vv, rfl, hr, hb⟩
            obtain ⟨aou1, du1, rfl, hrowu1⟩ := hr.form
            rw [hq1.out] at hrowu1 ⊢
            have Bu1 : Below wc.heap.size wc u1 := Below.trans hdr (hb.mono (Below.size hdr))
            clear hr hb
            refine hK.out _ _ (hO.out u1 Bu1) (fun hHeld => ?_)
            clear hK K
            refine wpAnyH_ready (rs := [15]) (by kernel_rfl) (by simp) ?_
            refine AllReadyH.cons (o := _) rfl (fun K hK => ?_) AllReadyH.nil
            go_simp
            refine (put_any [] (evNs Y) none aou1 0 0 q1 du1 u1 (RowIn.ofNil _ _) hrowu1 HMB.out (by omega)).mono ?_
            rintro r u2 ⟨rfl, ownu2, hb⟩
            rw [Nat.zero_add] at ownu2 ⊢
            rw [List.nil_append] at ownu2
            have Ru2 := RowIn.owned ownu2
            obtain ⟨gu2, hgu2⟩ : ∃ x, Hid (u1.heap.size = x) := ⟨_, rfl⟩
            rw [hgu2.out] at Ru2 ⊢
            have Bu2 : Below wc.heap.size wc u2 := Bu1.trans (hb.mono (Below.size Bu1))
            have Ku2 : Hid (∀ w', Below u2.heap.size u2 w' → (convert 40 9 (.slice (some ⟨gu2, 0, none⟩) (8 * q1) (8 * q1))).run Try.prog w' = .ok (.string sN) w') := fun w' h => by rw [← hsN.out]; exact conv_row (Ru2.below h)
            clear ownu2 Ru2 hrowu1
            refine hK.out _ _ (hO.out u2 Bu2) (fun hHeld => ?_)
            clear hK K
            refine wpAnyH_strong (S' := fun w' => (w'.heap[hx]? = some (.cells cx.toArray 38 (0, 0)) ∧ w'.heap[hy]? = some (.cells cy.toArray 38 (0, 0))) ∧ (convert 40 9 (.slice (some ⟨gu2, 0, none⟩) (8 * q1) (8 * q1))).run Try.prog w' = .ok (.string sN) w') (fun w h => h.1) _ _ _ _ ?_
            replace hHeld := And.intro hHeld (Ku2.out u2 (Below.refl _ _))
            refine take_set (i := 16) (v := .string sN) rfl rfl (by kernel_rfl) (by kernel_rfl) (by kernel_rfl) (fun _ _ _ h => h) (Or.inl ⟨by kernel_rfl, fun w' hSw => ?_⟩) hHeld ?_
            · (have q := hSw.2; clear hSw; go_simp)
            simp only [List.set_cons_succ, List.set_cons_zero]
            refine wpAnyH_ready (rs := [18]) (by kernel_rfl) (by simp) ?_
            refine AllReadyH.cons (o := _) rfl (fun K hK => ?_) AllReadyH.nil
            go_simp
            refine (lnum_any Y _ u2 (HCY.out.below Bu2) HYB.out).mono ?_
            rintro r u3 ⟨vv, rfl, hr, hb⟩
            obtain ⟨aou3, du3, rfl, hrowu3⟩ := hr.form
            rw [hq1.out] at hrowu3 ⊢
            have Bu3 : Below wc.heap.size wc u3 := Below.trans Bu2 (hb.mono (Below.size Bu2))
            have hb23 := hb
            clear hr hb
            have Bu23 : Below u2.heap.size u2 u3 := hb23
            refine hK.out _ _ (⟨hO.out u3 Bu3, Ku2.out u3 Bu23⟩) (fun hHeld => ?_)
            clear hK K
            refine wpAnyH_ready (rs := [19]) (by kernel_rfl) (by simp) ?_
            refine AllReadyH.cons (o := _) rfl (fun K hK => ?_) AllReadyH.nil
            go_simp
            refine (put_any [] (evNs Y) none aou3 0 0 q1 du3 u3 (RowIn.ofNil _ _) hrowu3 HMB.out (by omega)).mono ?_
            rintro r u4 ⟨rfl, ownu4, hb⟩
            rw [Nat.zero_add] at ownu4 ⊢
            rw [List.nil_append] at ownu4
            have Ru4 := RowIn.owned ownu4
            obtain ⟨gu4, hgu4⟩ : ∃ x, Hid (u3.heap.size = x) := ⟨_, rfl⟩
            rw [hgu4.out] at Ru4 ⊢
            have Bu4 : Below wc.heap.size wc u4 := Bu3.trans (hb.mono (Below.size Bu3))
            have Ku4 : Hid (∀ w', Below u4.heap.size u4 w' → (convert 40 9 (.slice (some ⟨gu4, 0, none⟩) (8 * q1) (8 * q1))).run Try.prog w' = .ok (.string sN) w') := fun w' h => by rw [← hsN.out]; exact conv_row (Ru4.below h)
            have Bu24 : Below u2.heap.size u2 u4 := Bu23.trans (hb.mono Bu23.size)
            clear ownu4 Ru4 hrowu3
            refine hK.out _ _ (⟨hO.out u4 Bu4, Ku2.out u4 Bu24⟩) (fun hHeld => ?_)
            clear hK K
            refine wpAnyH_strong (S' := fun w' => ((w'.heap[hx]? = some (.cells cx.toArray 38 (0, 0)) ∧ w'.heap[hy]? = some (.cells cy.toArray 38 (0, 0))) ∧ (convert 40 9 (.slice (some ⟨gu2, 0, none⟩) (8 * q1) (8 * q1))).run Try.prog w' = .ok (.string sN) w') ∧ (convert 40 9 (.slice (some ⟨gu4, 0, none⟩) (8 * q1) (8 * q1))).run Try.prog w' = .ok (.string sN) w') (fun w h => h.1) _ _ _ _ ?_
            replace hHeld := And.intro hHeld (Ku4.out u4 (Below.refl _ _))
            refine take_set (i := 20) (v := .string sN) rfl rfl (by kernel_rfl) (by kernel_rfl) (by kernel_rfl) (fun _ _ _ h => h) (Or.inl ⟨by kernel_rfl, fun w' hSw => ?_⟩) hHeld ?_
            · (have q := hSw.2; clear hSw; go_simp)
            simp only [List.set_cons_succ, List.set_cons_zero]
            refine take_set (i := 21) (v := .bool false) rfl rfl (by kernel_rfl) (by kernel_rfl) (by kernel_rfl) (fun _ _ _ h => h) (Or.inl ⟨by kernel_rfl, fun w' hSw => ?_⟩) hHeld ?_
            · go_simp
            simp only [List.set_cons_succ, List.set_cons_zero]
            refine take_set (i := 22) (v := .bool false) rfl rfl (by kernel_rfl) (by kernel_rfl) (by kernel_rfl) (fun _ _ _ h => h) (Or.inl ⟨by kernel_rfl, fun w' hSw => ?_⟩) hHeld ?_
            · go_simp
            simp only [List.set_cons_succ, List.set_cons_zero]
            refine take_set (i := 23) (v := .bool false) rfl rfl (by kernel_rfl) (by kernel_rfl) (by kernel_rfl) (fun _ _ _ h => h) (Or.inl ⟨by kernel_rfl, fun w' hSw => ?_⟩) hHeld ?_
            · go_simp
            simp only [List.set_cons_succ, List.set_cons_zero]
            refine take_set (i := 24) (v := .pointer (some ⟨hx, 0, none⟩)) rfl rfl (by kernel_rfl) (by kernel_rfl) (by kernel_rfl) (fun _ _ _ h => h) (Or.inl ⟨by kernel_rfl, fun w' hSw => ?_⟩) hHeld ?_
            · go_simp
            simp only [List.set_cons_succ, List.set_cons_zero]
            refine take_set (i := 25) (v := .int .i64 3) rfl rfl (by kernel_rfl) (by kernel_rfl) (by kernel_rfl) (fun _ _ _ h => h) (Or.inl ⟨by kernel_rfl, fun w' hSw => ?_⟩) hHeld ?_
            · (have q : w'.cell? ⟨hx, 0, none⟩ = some (.int .i64 3) := (cell_of_row w' hx 0 _ _ _ hSw.1.1.1).trans KX0.out; clear hSw; go_simp)
            simp only [List.set_cons_succ, List.set_cons_zero]
            refine take_set (i := 26) (v := .bool true) rfl rfl (by kernel_rfl) (by kernel_rfl) (by kernel_rfl) (fun _ _ _ h => h) (Or.inl ⟨by kernel_rfl, fun w' hSw => ?_⟩) hHeld ?_
            · go_simp
            simp only [List.set_cons_succ, List.set_cons_zero]
            refine take_set (i := 27) (v := .bool true) rfl rfl (by kernel_rfl) (by kernel_rfl) (by kernel_rfl) (fun _ _ _ h => h) (Or.inl ⟨by kernel_rfl, fun w' hSw => ?_⟩) hHeld ?_
            · go_simp
            simp only [List.set_cons_succ, List.set_cons_zero]
            refine take_set (i := 28) (v := .pointer (some ⟨hx, 2, none⟩)) rfl rfl (by kernel_rfl) (by kernel_rfl) (by kernel_rfl) (fun _ _ _ h => h) (Or.inl ⟨by kernel_rfl, fun w' hSw => ?_⟩) hHeld ?_
            · go_simp
            simp only [List.set_cons_succ, List.set_cons_zero]
            refine take_set (i := 29) (v := .pointer (some ⟨hx, 2, none⟩)) rfl rfl (by kernel_rfl) (by kernel_rfl) (by kernel_rfl) (fun _ _ _ h => h) (Or.inl ⟨by kernel_rfl, fun w' hSw => ?_⟩) hHeld ?_
            · go_simp
            simp only [List.set_cons_succ, List.set_cons_zero]
            refine take_set (i := 30) (v := .int .u64 0) rfl rfl (by kernel_rfl) (by kernel_rfl) (by kernel_rfl) (fun _ _ _ h => h) (Or.inl ⟨by kernel_rfl, fun w' hSw => ?_⟩) hHeld ?_
            · (have q : w'.cell? ⟨hx, 2, none⟩ = some (.int .u64 0) := (cell_of_row w' hx 2 _ _ _ hSw.1.1.1).trans KX2.out; clear hSw; go_simp)
            simp only [List.set_cons_succ, List.set_cons_zero]
            refine take_set (i := 31) (v := .pointer (some ⟨hx, 2, none⟩)) rfl rfl (by kernel_rfl) (by kernel_rfl) (by kernel_rfl) (fun _ _ _ h => h) (Or.inl ⟨by kernel_rfl, fun w' hSw => ?_⟩) hHeld ?_
            · go_simp
            simp only [List.set_cons_succ, List.set_cons_zero]
            refine take_set (i := 32) (v := .pointer (some ⟨hx, 3, none⟩)) rfl rfl (by kernel_rfl) (by kernel_rfl) (by kernel_rfl) (fun _ _ _ h => h) (Or.inl ⟨by kernel_rfl, fun w' hSw => ?_⟩) hHeld ?_
            · go_simp
            simp only [List.set_cons_succ, List.set_cons_zero]
            refine take_set (i := 33) (v := .int .u64 0) rfl rfl (by kernel_rfl) (by kernel_rfl) (by kernel_rfl) (fun _ _ _ h => h) (Or.inl ⟨by kernel_rfl, fun w' hSw => ?_⟩) hHeld ?_
            · (have q : w'.cell? ⟨hx, 3, none⟩ = some (.int .u64 0) := (cell_of_row w' hx 3 _ _ _ hSw.1.1.1).trans KX3.out; clear hSw; go_simp)
            simp only [List.set_cons_succ, List.set_cons_zero]
            refine take_set (i := 34) (v := .int .u64 0) rfl rfl (by kernel_rfl) (by kernel_rfl) (by kernel_rfl) (fun _ _ _ h => h) (Or.inl ⟨by kernel_rfl, fun w' hSw => ?_⟩) hHeld ?_
            · (go_simp; rw [IntKind.wrap_u64]; rfl)
            simp only [List.set_cons_succ, List.set_cons_zero]
            refine take_set (i := 35) (v := .bool false) rfl rfl (by kernel_rfl) (by kernel_rfl) (by kernel_rfl) (fun _ _ _ h => h) (Or.inl ⟨by kernel_rfl, fun w' hSw => ?_⟩) hHeld ?_
            · go_simp
            simp only [List.set_cons_succ, List.set_cons_zero]
            refine take_set (i := 36) (v := .bool false) rfl rfl (by kernel_rfl) (by kernel_rfl) (by kernel_rfl) (fun _ _ _ h => h) (Or.inl ⟨by kernel_rfl, fun w' hSw => ?_⟩) hHeld ?_
            · go_simp
            simp only [List.set_cons_succ, List.set_cons_zero]
            refine take_set (i := 37) (v := .bool false) rfl rfl (by kernel_rfl) (by kernel_rfl) (by kernel_rfl) (fun _ _ _ h => h) (Or.inl ⟨by kernel_rfl, fun w' hSw => ?_⟩) hHeld ?_
            · go_simp
            simp only [List.set_cons_succ, List.set_cons_zero]
            refine take_set (i := 38) (v := .bool false) rfl rfl (by kernel_rfl) (by kernel_rfl) (by kernel_rfl) (fun _ _ _ h => h) (Or.inl ⟨by kernel_rfl, fun w' hSw => ?_⟩) hHeld ?_
            · go_simp
            simp only [List.set_cons_succ, List.set_cons_zero]
            refine take_set (i := 39) (v := .pointer (some ⟨hx, 0, none⟩)) rfl rfl (by kernel_rfl) (by kernel_rfl) (by kernel_rfl) (fun _ _ _ h => h) (Or.inl ⟨by kernel_rfl, fun w' hSw => ?_⟩) hHeld ?_
            · go_simp
            simp only [List.set_cons_succ, List.set_cons_zero]
            refine take_set (i := 40) (v := .int .i64 3) rfl rfl (by kernel_rfl) (by kernel_rfl) (by kernel_rfl) (fun _ _ _ h => h) (Or.inl ⟨by kernel_rfl, fun w' hSw => ?_⟩) hHeld ?_
            · (have q : w'.cell? ⟨hx, 0, none⟩ = some (.int .i64 3) := (cell_of_row w' hx 0 _ _ _ hSw.1.1.1).trans KX0.out; clear hSw; go_simp)
            simp only [List.set_cons_succ, List.set_cons_zero]
            refine take_set (i := 41) (v := .bool true) rfl rfl (by kernel_rfl) (by kernel_rfl) (by kernel_rfl) (fun _ _ _ h => h) (Or.inl ⟨by kernel_rfl, fun w' hSw => ?_⟩) hHeld ?_
            · go_simp
            simp only [List.set_cons_succ, List.set_cons_zero]
            refine take_set (i := 42) (v := .bool true) rfl rfl (by kernel_rfl) (by kernel_rfl) (by kernel_rfl) (fun _ _ _ h => h) (Or.inl ⟨by kernel_rfl, fun w' hSw => ?_⟩) hHeld ?_
            · go_simp
            simp only [List.set_cons_succ, List.set_cons_zero]
            refine take_set (i := 43) (v := .pointer (some ⟨hx, 7, none⟩)) rfl rfl (by kernel_rfl) (by kernel_rfl) (by kernel_rfl) (fun _ _ _ h => h) (Or.inl ⟨by kernel_rfl, fun w' hSw => ?_⟩) hHeld ?_
            · go_simp
            simp only [List.set_cons_succ, List.set_cons_zero]
            refine take_set (i := 44) (v := .pointer (some ⟨hx, 13, none⟩)) rfl rfl (by kernel_rfl) (by kernel_rfl) (by kernel_rfl) (fun _ _ _ h => h) (Or.inl ⟨by kernel_rfl, fun w' hSw => ?_⟩) hHeld ?_
            · go_simp
            simp only [List.set_cons_succ, List.set_cons_zero]
            refine take_set (i := 45) (v := .slice a3 0 c3) rfl rfl (by kernel_rfl) (by kernel_rfl) (by kernel_rfl) (fun _ _ _ h => h) (Or.inl ⟨by kernel_rfl, fun w' hSw => ?_⟩) hHeld ?_
            · (have q : w'.cell? ⟨hx, 13, none⟩ = some (.slice a3 0 c3) := (cell_of_row w' hx 13 _ _ _ hSw.1.1.1).trans KX13.out; clear hSw; go_simp)
            simp only [List.set_cons_succ, List.set_cons_zero]
            refine take_set (i := 46) (v := .int .i64 0) rfl rfl (by kernel_rfl) (by kernel_rfl) (by kernel_rfl) (fun _ _ _ h => h) (Or.inl ⟨by kernel_rfl, fun w' hSw => ?_⟩) hHeld ?_
            · go_simp
            simp only [List.set_cons_succ, List.set_cons_zero]
            refine take_set (i := 47) (v := .bool false) rfl rfl (by kernel_rfl) (by kernel_rfl) (by kernel_rfl) (fun _ _ _ h => h) (Or.inl ⟨by kernel_rfl, fun w' hSw => ?_⟩) hHeld ?_
            · go_simp
            simp only [List.set_cons_succ, List.set_cons_zero]
            refine take_set (i := 48) (v := .bool false) rfl rfl (by kernel_rfl) (by kernel_rfl) (by kernel_rfl) (fun _ _ _ h => h) (Or.inl ⟨by kernel_rfl, fun w' hSw => ?_⟩) hHeld ?_
            · go_simp
            simp only [List.set_cons_succ, List.set_cons_zero]
            refine take_set (i := 49) (v := .bool false) rfl rfl (by kernel_rfl) (by kernel_rfl) (by kernel_rfl) (fun _ _ _ h => h) (Or.inl ⟨by kernel_rfl, fun w' hSw => ?_⟩) hHeld ?_
            · go_simp
            simp only [List.set_cons_succ, List.set_cons_zero]
            refine take_set (i := 50) (v := .bool false) rfl rfl (by kernel_rfl) (by kernel_rfl) (by kernel_rfl) (fun _ _ _ h => h) (Or.inl ⟨by kernel_rfl, fun w' hSw => ?_⟩) hHeld ?_
            · go_simp
            simp only [List.set_cons_succ, List.set_cons_zero]
            refine take_set (i := 51) (v := .pointer (some ⟨hx, 0, none⟩)) rfl rfl (by kernel_rfl) (by kernel_rfl) (by kernel_rfl) (fun _ _ _ h => h) (Or.inl ⟨by kernel_rfl, fun w' hSw => ?_⟩) hHeld ?_
            · go_simp
            simp only [List.set_cons_succ, List.set_cons_zero]
            refine take_set (i := 52) (v := .int .i64 3) rfl rfl (by kernel_rfl) (by kernel_rfl) (by kernel_rfl) (fun _ _ _ h => h) (Or.inl ⟨by kernel_rfl, fun w' hSw => ?_⟩) hHeld ?_
            · (have q : w'.cell? ⟨hx, 0, none⟩ = some (.int .i64 3) := (cell_of_row w' hx 0 _ _ _ hSw.1.1.1).trans KX0.out; clear hSw; go_simp)
            simp only [List.set_cons_succ, List.set_cons_zero]
            refine take_set (i := 53) (v := .bool false) rfl rfl (by kernel_rfl) (by kernel_rfl) (by kernel_rfl) (fun _ _ _ h => h) (Or.inl ⟨by kernel_rfl, fun w' hSw => ?_⟩) hHeld ?_
            · go_simp
            simp only [List.set_cons_succ, List.set_cons_zero]
            refine take_set (i := 54) (v := .bool false) rfl rfl (by kernel_rfl) (by kernel_rfl) (by kernel_rfl) (fun _ _ _ h => h) (Or.inl ⟨by kernel_rfl, fun w' hSw => ?_⟩) hHeld ?_
            · go_simp
            simp only [List.set_cons_succ, List.set_cons_zero]
            refine take_set (i := 55) (v := undef) rfl rfl (by kernel_rfl) (by kernel_rfl) (by kernel_rfl) (fun _ _ _ h => h) (Or.inr ⟨by kernel_rfl, rfl⟩) hHeld ?_
            simp only [List.set_cons_succ, List.set_cons_zero]
            refine take_set (i := 56) (v := undef) rfl rfl (by kernel_rfl) (by kernel_rfl) (by kernel_rfl) (fun _ _ _ h => h) (Or.inr ⟨by kernel_rfl, rfl⟩) hHeld ?_
            simp only [List.set_cons_succ, List.set_cons_zero]
            refine take_set (i := 57) (v := undef) rfl rfl (by kernel_rfl) (by kernel_rfl) (by kernel_rfl) (fun _ _ _ h => h) (Or.inr ⟨by kernel_rfl, rfl⟩) hHeld ?_
            simp only [List.set_cons_succ, List.set_cons_zero]
            refine take_set (i := 58) (v := undef) rfl rfl (by kernel_rfl) (by kernel_rfl) (by kernel_rfl) (fun _ _ _ h => h) (Or.inr ⟨by kernel_rfl, rfl⟩) hHeld ?_
            simp only [List.set_cons_succ, List.set_cons_zero]
            refine take_set (i := 59) (v := undef) rfl rfl (by kernel_rfl) (by kernel_rfl) (by kernel_rfl) (fun _ _ _ h => h) (Or.inr ⟨by kernel_rfl, rfl⟩) hHeld ?_
            simp only [List.set_cons_succ, List.set_cons_zero]
            refine take_set (i := 60) (v := undef) rfl rfl (by kernel_rfl) (by kernel_rfl) (by kernel_rfl) (fun _ _ _ h => h) (Or.inr ⟨by kernel_rfl, rfl⟩) hHeld ?_
            simp only [List.set_cons_succ, List.set_cons_zero]
            refine take_set (i := 61) (v := .bool false) rfl rfl (by kernel_rfl) (by kernel_rfl) (by kernel_rfl) (fun _ _ _ h => h) (Or.inl ⟨by kernel_rfl, fun w' hSw => ?_⟩) hHeld ?_
            · go_simp
            simp only [List.set_cons_succ, List.set_cons_zero]
            refine take_set (i := 62) (v := .bool false) rfl rfl (by kernel_rfl) (by kernel_rfl) (by kernel_rfl) (fun _ _ _ h => h) (Or.inl ⟨by kernel_rfl, fun w' hSw => ?_⟩) hHeld ?_
            · go_simp
            simp only [List.set_cons_succ, List.set_cons_zero]
            refine wpAnyH_done (by kernel_rfl) ?_ _
            refine NoPanic.normal ?_
            have HJ4 : Hid (Below v5.heap.size v5 u4) := HBC.out.trans (Bu4.mono HBC.out.size)
            clear Bu1 Bu2 Bu3 Bu4 Bu23 Bu24 hb23 hml
            clear hHeld hdr hxx hxy hlx hly KX0 KX1 KY0 KY1 HL2 HMB hsN Ku2 Ku4 hO hq1 HCXX HCY HYB hY hsa
            go_wp2
            go_roundw
            case rel => exact ⟨j + 1, by omega, by go_num, HJ4⟩
            case measure => simp [intOf]; omega
        · go_wp2
          go_ret
          exact ⟨rfl, HBF.out.trans (hJ.out.mono HBF.out.size)⟩

set_option maxRecDepth 100000 in
theorem lifted (os : Os) (started : os.Started) (H : Type) (enc : TypeId × Value → H) :
    ReturnsInHanded {} Try.checked os 4 .any (Rows.wireBackSpec.pre6 enc Try.prog Try.f4 Rows.wireBackRow.domain false) (Rows.wireBackSpec.post enc Try.prog Try.f4 false true false false) := by
  refine returnsInHanded_of_change (C := Try.checked) own started (by kernel_rfl) Try.func4
    (ChangeSpec.witness6 (enc := enc) (C := Try.checked) false ⟨#[], #[.slice none 0 0], []⟩ 8 (by kernel_rfl) (by kernel_rfl) (by kernel_rfl) (by kernel_rfl)) ?_
  intro W base args ds gs before hval0 hW hcnd _
  have hval : ∀ (j : Nat) t v, Try.f4.params[j]? = some t → args[j]? = some v → Value.okWide Try.prog W .any base t v := hval0
  have hW' := hW
  obtain ⟨p, q, hA0, hV, rfl, hfz, hnd⟩ := hW
  have hA : DataW.TrodAll enc Try.prog W 0 (fun _ => true) true Try.f4.params.toList args.toList ds p := hA0
  rw [Try.params4] at hA hval
  obtain ⟨v0, vs0, d0, ds0, p0, q0, hargs, rfl, rfl, h0, r0⟩ := trodAll_cons hA
  obtain ⟨rfl, rfl, rfl⟩ := trodAll_nil r0
  obtain rfl : args = #[v0] := by cases args; simp_all
  obtain ⟨rfl, rfl⟩ := trodVars_none hV
  obtain ⟨a0, len0, cap0, rfl⟩ := okWide_slice Try.underlying22 (hval 0 22 v0 rfl rfl)
  have k0 := h0
  have lt0 : ∀ x ∈ p0, x.block < W.heap.size := by obtain ⟨m, hm⟩ := k0; exact DataW.trod_lt m _ _ _ hm
  obtain ⟨fuel0, hf0⟩ := h0
  simp only [Value.cells] at hf0
  obtain ⟨e0, w0⟩ := (Sh.read _).1 _ _ _ _ has22 hf0
  clear hA0 hval0
  refine (walk a0 len0 cap0 e0 W w0).mono fun e W' ⟨he, bel⟩ => ?_
  subst he
  exact ⟨_, rfl, _, _, _, [], _, [], hW', trodAll_mk1 (shut_bool Try.underlying4 _), (trodAll_cons_mk (Below.trod laidOut (by kernel_rfl) (of_decide_eq_true (by kernel_rfl)) k0 bel lt0) trodAll_mk0), rfl, bel.frame _, fun h => by cases h⟩

theorem over : Rows.wireBackRow.holds Try.pinned (OpenSpec.ofChange Rows.wireBackSpec) :=
  OpenClaim.holds_of_wide 4 Try.f4 rfl rfl rfl rfl rfl rfl rfl ⟨rfl, rfl, rfl, rfl, rfl⟩ rfl rfl rfl rfl rfl (by kernel_rfl) Try.func4 (by kernel_rfl)
    (of_decide_eq_true (by kernel_rfl)) (by unfold Func.isWrapper; first | (rw [if_pos (by decide +kernel)]; kernel_rfl) | (rw [if_neg (by decide +kernel)]; exact ⟨rfl, rfl⟩))
    (fun os started H enc _ => lifted os started H enc)

theorem proved : Rows.WireBackSaid := over
end Go.Proofs.Ytaoapconbljkhaa.wireBack

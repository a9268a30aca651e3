/- The walk of WireCut: bytes of which some are cut off tell the place of the number that is not all there. -/
import Derived.Test.YtpmldjcfmclkkaaDoorWCutP

import Derived.Test.YtpmldjcfmclkkaaDoorWMore

import Derived.Test.YtpmldjcfmclkkaaDoorWNumb2

namespace Go.Proofs.YtpmldjcfmclkkaaDoor

open Go.ChangeShapes Go.WideShapes Go.ChangeAt Go.RowKit

set_option linter.unusedVariables false

theorem bytesOf_len (gs : List Ev) : (bytesOf gs).length % 8 = 0 := by
  induction gs with
  | nil => rfl
  | cons e gs ih =>
    have : bytesOf (e :: gs) = flat (evNs e) ++ bytesOf gs := rfl
    rw [this, List.length_append, len_flat]
    omega
theorem RowIn.upto {k : IntKind} {w : World} {b off n c : Nat} {zs : List Int} (h : RowIn k w (some ⟨b, off, none⟩) n c zs) (p : Nat) (hp : p ≤ n) : RowIn k w (some ⟨b, off, none⟩) p c (zs.take p) := by
  have hl := h.len
  refine ⟨by simp; omega, fun e => by (cases e), fun i hi => ?_, by have := h.cap; omega⟩
  obtain ⟨b', off', e, hlt, hc⟩ := h.cell i (by omega)
  cases e
  refine ⟨_, _, rfl, hlt, hc.trans ?_⟩
  simp [List.getD_eq_getElem?_getD, hi]

set_option maxRecDepth 100000 in
set_option maxHeartbeats 8000000 in
set_option maxRecDepth 100000 in
theorem cut_walk (a0 : Option Addr) (len0 cap0 : Nat) (es : List Ev) (a1 : Int) (hcut : 0 ≤ a1 ∧ a1 ≤ 255) (w : World) (hE : RowsIn (EventC w) 28 w a0 len0 cap0 es) (hg0 : w.cell? ⟨0, 0, none⟩ = some (.iface 94 (.agg #[.pointer (some ⟨1, 45, none⟩)]))) :
    Calls Tryd.prog 4 #[.slice a0 len0 cap0, .int .u8 a1] w fun e w' => e = .returned (.bool true) ∧ Below w.heap.size w w' := by
  have hlt0 : 0 < w.heap.size := by
    rcases Nat.eq_zero_or_pos w.heap.size with h0 | h
    · simp [World.cell?, h0] at hg0
    · exact h
  have HG := hide hg0
  clear hg0
  obtain ⟨c, hcc⟩ : ∃ c : Nat, a1.tmod 7 = (c : Int) := ⟨(a1.tmod 7).toNat, by rw [Int.toNat_of_nonneg (Int.tmod_nonneg _ hcut.1)]⟩
  have hc7 : c < 7 := by have := Int.tmod_lt_of_pos a1 (show (0 : Int) < 7 by omega); omega
  have hlen := hE.len
  have hcap := hE.cap
  unfold maxLen at hcap
  have H := hide hE
  clear hE
  go_enter Tryd.func4, Tryd.ntmps4
  go_wp2_with fail
  refine (awake_any _).mono ?_
  rintro r w1 ⟨rfl, hb1⟩
  have HB1 := hide hb1
  clear hb1
  by_cases h100 : (100 : Int) < (len0 : Int)
  · go_wp2
    go_ret
    exact ⟨rfl, HB1.out⟩
  go_wp2
  go_loopw [5, 20] (fun g i wr => ∃ (k m : Nat) (ao : Option Addr) (d : Nat), k ≤ len0 ∧ i = .int .i64 k ∧ g = .slice ao m d ∧ m ≤ k ∧ Hid (((es.take k).filter evB).length = m ∧ OwnRows (EventC w) 40 28 w.heap.size wr (.slice ao m d) ((es.take k).filter evB) ∧ Below w.heap.size w wr)) (fun _ i _ => len0 - (intOf i).toNat)
  case atStart => exact ⟨0, 0, none, 0, Nat.zero_le _, rfl, rfl, Nat.le_refl _, hide ⟨rfl, OwnRows.none _ _ _ _ _, HB1.out⟩⟩
  case round =>
    obtain ⟨k, m, ao, d, hk, rfl, rfl, hmk, hI⟩ := hrel
    by_cases hlt : k < len0
    · obtain ⟨b, off, cs, rfl, hbs, hcl, hcc, hE⟩ := H.out.row k (by omega)
      have hfl : (es.take (k + 1)).filter evB = (es.take k).filter evB ++ (if evB es[k] = true then [es[k]] else []) := by
        rw [List.take_succ_eq_append_getElem (by omega), List.filter_append]
        cases h : evB es[k] <;> simp [h]
      obtain ⟨e, hge⟩ : ∃ v, Hid (es[k] = v) := ⟨_, hide rfl⟩
      rw [hge.out] at hE hfl
      have ld1 : (Instr.loadAt 40 (.pointer (some ⟨b, off + k * 28, none⟩))).run Tryd.prog wr = .ok (.agg cs.toArray) wr :=
        load_mid Tryd.underlying40 infoEv hcl fun j hj => by
          have := (hI.out.2.2.cell (p := ⟨b, off + (k * 28 + j), none⟩) hbs).trans (hcc j hj)
          rwa [← Nat.add_assoc] at this
      have st1 : ∀ Z : Array Value, Z.size = 28 → (Instr.storeAt 40 (.pointer (some ⟨wr.heap.size, 0, none⟩)) (.agg cs.toArray)).run Tryd.prog (wr.alloc (.cells Z 40)) = .ok () (wr.alloc (.cells cs.toArray 40)) :=
        fun Z hZ => store_new infoEv hcl hZ hE.one.1 rfl
      have ld2 : (Instr.loadAt 40 (.pointer (some ⟨wr.heap.size, 0, none⟩))).run Tryd.prog (wr.alloc (.cells cs.toArray 40)) = .ok (.agg cs.toArray) (wr.alloc (.cells cs.toArray 40)) :=
        load_new Tryd.underlying40 infoEv hcl rfl
      have HE0 := hide hE
      have HCL := hide hcl
      have HFL := hide hfl
      have L1 := hide ld1
      have S1 := hide st1
      have L2 := hide ld2
      clear hE hfl hcc hcl ld1 st1 ld2
      go_wp2_with (first
        | (refine wpList_load_at 40 (.tmp 22) rfl rfl (.pointer (some ⟨b, off + k * 28, none⟩)) rfl (.agg cs.toArray) L1.out ?_)
        | (refine wpList_store_at 40 (.tmp 7) (.tmp 23) rfl rfl (.pointer (some ⟨wr.heap.size, 0, none⟩)) (.agg cs.toArray) rfl rfl _ (S1.out _ rfl) ?_)
        | (refine wpList_load_at 40 (.tmp 7) rfl rfl (.pointer (some ⟨wr.heap.size, 0, none⟩)) rfl (.agg cs.toArray) L2.out ?_))
      have hwx := hI.out.2.2.alloc hI.out.2.2.size (.cells cs.toArray 40)
      refine (lmay_any e _ _ (HE0.out.below hwx)).mono ?_
      rintro r wd ⟨rfl, hb⟩
      have hrd : Below wr.heap.size wr wd := (below_alloc wr _).trans (hb.mono (by simp))
      have hpvd : wd.heap[wr.heap.size]? = some (.cells cs.toArray 40 (0, 0)) := (hb.block _ (by simp)).trans (heap_alloc_new _ _)
      have LD : Hid ((Instr.loadAt 40 (.pointer (some ⟨wr.heap.size, 0, none⟩))).run Tryd.prog wd = .ok (.agg cs.toArray) wd) := load_obj Tryd.underlying40 infoEv (by rw [List.size_toArray]; exact HCL.out) hpvd
      have HRD := hide hrd
      have HWD := hide (hI.out.2.2.trans (hrd.mono hI.out.2.2.size))
      clear hb hrd hpvd hwx L1 S1 L2
      obtain ⟨q, hq⟩ : ∃ q, Hid (evB e = q) := ⟨_, rfl⟩
      rw [hq.out] at HFL ⊢
      cases q
      · rw [if_neg (by simp), List.append_nil] at HFL
        go_wp2
        go_roundw
        case rel => exact ⟨k + 1, m, ao, d, by omega, by go_num, rfl, by omega, hide (by rw [HFL.out]; exact ⟨hI.out.1, hI.out.2.1.below HRD.out fun cs v h => h, HWD.out⟩)⟩
        case measure => simp [intOf]; omega
      · rw [if_pos rfl] at HFL
        obtain ⟨i0, hi, hz0, hz1, hz2⟩ := info_parts infoE
        have one : Hid (∀ (cs : List Value) (v : Ev), EventC w cs v → ∀ u ∈ cs, u.oneCell' = true) := fun cs v h => h.one.1
        have hO := hide (hI.out.2.1.below (HRD.out.trans ((below_alloc wd (.cells cs.toArray 40)).mono HRD.out.size)) fun cs v h => h)
        have hR := hide (RowsIn.lit (R := EventC w) wd wd.heap.size cs 40 28 e rfl HCL.out HE0.out)
        have hsd := HWD.out.size
        go_wp2_with (first
          | (refine wpList_load_at 40 (.tmp 7) rfl rfl (.pointer (some ⟨wr.heap.size, 0, none⟩)) rfl (.agg cs.toArray) LD.out ?_)
          | (refine wpList_build_one rfl 22 40 (.tmp 27) rfl cs 28 rfl HCL.out (by omega) i0 _ Tryd.underlying22 hi hz0 hz1 ?_)
          | (at_builtin; refine wpList_append_structs (R := EventC w) _ rfl (.tmp 26) (.tmp 28) 22 rfl w.heap.size 40 i0 (.agg (tickCs 0).toArray) 28 304 Tryd.underlying22 hi hz0 hz1 hz2 rfl (by omega) one.out (.slice ao m d) m (List.filter evB (List.take k es)) rfl hO.out hI.out.1 (some ⟨wd.heap.size, 0, none⟩) 1 1 [e] rfl hR.out ?c1 ?c2 ?c3 ?_))
        case c1 => unfold maxLen; omega
        case c2 => omega
        case c3 => simp; omega
        intro ao5 d5 we hown5 hg5
        rw [← HFL.out] at hown5
        have hlt5 : ∀ j, (Value.slice ao m d).ownBlock = some j → w.heap.size ≤ j := fun j hj => by obtain ⟨css, _, ho⟩ := hI.out.2.1; exact (ho.lt j hj).1
        have HWE := hide ((HWD.out.alloc hsd (.cells cs.toArray 40)).grown hg5 (by simp; omega) hlt5)
        have HO5 := hide hown5
        have hlen5 : Hid ((List.filter evB (List.take (k + 1) es)).length = m + 1) := show _ = _ by rw [HFL.out, List.length_append, hI.out.1]; rfl
        clear hown5 hg5 hlt5 hO hR LD
        go_wp2
        go_roundw
        case rel => exact ⟨k + 1, m + 1, ao5, d5, by omega, by go_num, rfl, by omega, hide ⟨hlen5.out, HO5.out, HWE.out⟩⟩
        case measure => simp [intOf]; omega
    · have : k = len0 := by omega
      subst this
      rw [List.take_of_length_le (by omega)] at hI
      obtain ⟨gs, hgs⟩ : ∃ x, Hid (es.filter evB = x) := ⟨_, rfl⟩
      rw [hgs.out] at hI
      have hgb : ∀ e ∈ gs, evB e = true := fun e he => by rw [← hgs.out] at he; exact (List.mem_filter.1 he).2
      have hgl : gs.length = m := hI.out.1
      obtain ⟨ag, dg, eg, RG⟩ := hI.out.2.1.rows (by omega)
      rw [hgl] at eg RG
      cases eg
      have hbw := hI.out.2.2
      have hok : ∀ e ∈ gs, evB e = true ∧ e.Wf := fun e he => by
        obtain ⟨cs, hc⟩ := rows_mem RG e he
        exact ⟨hgb e he, hc.wf⟩
      have hns : ∀ e ∈ gs, ∀ n ∈ evNs e, IsU64 n := fun e he => by
        obtain ⟨cs, hc⟩ := rows_mem RG e he
        exact evNs_b e hc (hgb e he)
      have HB8 := hide (bytes8_of hok hns)
      have HRG := hide (RG.mono (Below.refl _ _) fun cs v h => h.below hbw)
      have HGB := hide hgb
      have HBW := hide hbw
      have HNS := hide hns
      have HGL := hide hgl
      have HOK := hide hok
      clear RG hbw hI hok hgb hns hgl
      go_wp2_with fail
      refine (lbytes_any gs _ _ _ _ HRG.out HGB.out (by omega)).mono ?_
      rintro r v2 ⟨ao2, n2, d2, rfl, hn2, hn2b, own2, hb⟩
      obtain ⟨ax, dx, ex, R2⟩ := RowIn.ofOwned own2
      cases ex
      have HB2 := hide (HBW.out.trans (hb.mono HBW.out.size))
      have HR2 := hide R2
      have hd2 := R2.cap
      unfold maxLen at hd2
      clear hb R2 own2 HRG
      have h8 := bytesOf_len gs
      rw [← hn2] at h8
      by_cases h0 : n2 = 0
      · subst h0
        go_wp2
        go_ret
        exact ⟨rfl, HB2.out⟩
      · obtain ⟨bb, off, rfl, _, _⟩ := HR2.out.cell 0 (by omega)
        obtain ⟨L, hL⟩ : ∃ L, n2 = L + 8 := ⟨n2 - 8, by omega⟩
        obtain ⟨kk, hkk⟩ : ∃ kk, n2 = kk + 1 + c := ⟨n2 - 1 - c, by omega⟩
        have hw1 : IntKind.i64.wrap ((n2 : Int) - 1) = (n2 : Int) - 1 := by rw [IntKind.wrap_i64]; omega
        have hw2 : IntKind.i64.wrap ((n2 : Int) - 1 - (c : Int)) = (kk : Int) := by rw [IntKind.wrap_i64]; omega
        have hw3 : IntKind.i64.wrap ((n2 : Int) - 8) = (L : Int) := by rw [IntKind.wrap_i64]; omega
        have hkd : (kk : Int) ≤ d2 := by omega
        have hn0 : ¬ (n2 : Int) = 0 := by omega
        have hn0b : ((n2 : Int) == 0) = false := by simp [h0]
        have hdec : Hid (rDec ((bytesOf gs).take kk) 4096 [] ⟨0, false⟩ = ([], L, true)) := show _ = _ by
          have hc : CutOff (bytesOf gs) ((bytesOf gs).take kk) L := ⟨by omega, by rw [List.length_take]; omega, by rw [List.length_take, Nat.min_eq_left (by omega)], by omega⟩
          exact cut_dec hc gs [] 4096 0 (by simp) (Nat.zero_le _) rfl (by have := HGL.out; omega) HOK.out
        have HR2k := hide (HR2.out.upto kk (by omega))
        have HB8k : Hid (Bytes8 ((bytesOf gs).take kk)) := hide (fun z hz => HB8.out z (List.mem_of_mem_take hz))
        clear hn2 hL hkk h8 hn2b
        go_wp2_with fail
        refine (dec_any ((bytesOf gs).take kk) _ _ _ _ HR2k.out HB8k.out).mono ?_
        rintro r v4 ⟨ao4, n4, d4, rfl, R4, hb⟩
        rw [hdec.out] at R4 ⊢
        dsimp only at R4 ⊢
        obtain rfl : n4 = 0 := R4.len.symm
        have HB4 := hide (HB2.out.trans (hb.mono HB2.out.size))
        have hne : errV true = .iface 48 (.int .i64 1) := rfl
        rw [hne]
        have HG4 := hide ((HB4.out.cell (p := ⟨0, 0, none⟩) hlt0).trans HG.out)
        clear hb R4 hne
        go_wp2_with (go_at_call 9; refine (number_any _ HG4.out).mono ?_; rintro r v5 ⟨rfl, hb5⟩)
        go_ret
        exact ⟨rfl, HB4.out.trans (hb5.mono HB4.out.size)⟩
end Go.Proofs.YtpmldjcfmclkkaaDoor

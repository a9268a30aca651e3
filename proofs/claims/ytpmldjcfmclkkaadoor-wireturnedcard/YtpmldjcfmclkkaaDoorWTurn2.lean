/- The walk of WireTurned: bytes that are read are those of what is read of them; of others a place is told that lies in them. -/
import Derived.Test.YtpmldjcfmclkkaaDoorWTurnP

import Derived.Test.YtpmldjcfmclkkaaDoorWMore

import Derived.Test.YtpmldjcfmclkkaaDoorWNumb2

import Derived.BigQuiet

import Derived.WalkSmall

namespace Go.Proofs.YtpmldjcfmclkkaaDoor

open Go.ChangeShapes Go.WideShapes Go.ChangeAt Go.RowKit

set_option linter.unusedVariables false

theorem RowIn.put {k : IntKind} {w : World} {b off n c : Nat} {zs : List Int} (h : RowIn k w (some ⟨b, off, none⟩) n c zs) (i : Nat) (hi : i < n) (x : Int) : RowIn k (w.setCell ⟨b, off + i, none⟩ (.int k x)) (some ⟨b, off, none⟩) n c (zs.set i x) := by
  have hl := h.len
  refine ⟨by simpa using hl, fun e => by (cases e), fun j hj => ?_, h.cap⟩
  obtain ⟨b', off', e, hlt, hc⟩ := h.cell j hj
  cases e
  refine ⟨_, _, rfl, by simpa using hlt, ?_⟩
  by_cases hij : i = j
  · subst hij
    rw [World.cell?_setCell_same _ _ _ hc]
    simp [List.getD_eq_getElem?_getD, hl, hi]
  · rw [World.cell?_setCell_other _ _ _ _ (fun e => by simp only [Addr.mk.injEq, and_true, true_and] at e; omega), hc]
    simp [List.getD_eq_getElem?_getD, hij]
theorem bytes8_set {zs : List Int} (h : Bytes8 zs) (i : Nat) (x : Int) (hx : 0 ≤ x ∧ x ≤ 255) : Bytes8 (zs.set i x) := by
  intro z hz
  rcases List.mem_or_eq_of_mem_set hz with hz | rfl
  · exact h z hz
  · exact hx

set_option maxRecDepth 100000 in
set_option maxHeartbeats 16000000 in
set_option maxRecDepth 100000 in
theorem turn_walk (a0 : Option Addr) (len0 cap0 : Nat) (es : List Ev) (a1 a2 : Int) (a3 : Option Addr) (len3 cap3 : Nat) (bs : List Int) (hat : 0 ≤ a1 ∧ a1 ≤ 65535) (hwith : 0 ≤ a2 ∧ a2 ≤ 255) (w : World) (hE : RowsIn (EventC w) 28 w a0 len0 cap0 es)
    (hR3 : RowIn .u8 w a3 len3 cap3 bs) (h83 : Bytes8 bs) (hg0 : w.cell? ⟨0, 0, none⟩ = some (.iface 94 (.agg #[.pointer (some ⟨1, 45, none⟩)]))) :
    Calls Tryd.prog 3 #[.slice a0 len0 cap0, .int .u16 a1, .int .u8 a2, .slice a3 len3 cap3] w fun e w' => e = .returned (.bool true) ∧ Below w.heap.size w w' := by
  have hlt0 : 0 < w.heap.size := by
    rcases Nat.eq_zero_or_pos w.heap.size with h0 | h
    · simp [World.cell?, h0] at hg0
    · exact h
  have HG := hide hg0
  have HR3 := hide hR3
  have H83 := hide h83
  clear hg0 hR3 h83
  have hlen := hE.len
  have hcap := hE.cap
  unfold maxLen at hcap
  have H := hide hE
  clear hE
  go_enter Tryd.func3, Tryd.ntmps3
  go_wp2_with fail
  refine (awake_any _).mono ?_
  rintro r w1 ⟨rfl, hb1⟩
  have HB1 := hide hb1
  clear hb1
  by_cases h100 : (100 : Int) < (len0 : Int)
  · go_wp2
    go_ret
    exact ⟨rfl, HB1.out⟩
  go_wp2
  go_loopw [9, 25] (fun g i wr => ∃ (k m : Nat) (ao : Option Addr) (d : Nat), k ≤ len0 ∧ i = .int .i64 k ∧ g = .slice ao m d ∧ m ≤ k ∧ Hid (((es.take k).filter evB).length = m ∧ OwnRows (EventC w) 40 28 w.heap.size wr (.slice ao m d) ((es.take k).filter evB) ∧ Below w.heap.size w wr)) (fun _ i _ => len0 - (intOf i).toNat)
  case atStart => exact ⟨0, 0, none, 0, Nat.zero_le _, rfl, rfl, Nat.le_refl _, hide ⟨rfl, OwnRows.none _ _ _ _ _, HB1.out⟩⟩
  case round =>
    obtain ⟨k, m, ao, d, hk, rfl, rfl, hmk, hI⟩ := hrel
    by_cases hlt : k < len0
    · obtain ⟨b, off, cs, rfl, hbs, hcl, hcc, hE⟩ := H.out.row k (by omega)
      have hfl : (es.take (k + 1)).filter evB = (es.take k).filter evB ++ (if evB es[k] = true then [es[k]] else []) := by
        rw [List.take_succ_eq_append_getElem (by omega), List.filter_append]
        cases h : evB es[k] <;> simp [h]
      obtain ⟨e, hge⟩ : ∃ v, Hid (es[k] = v) := ⟨_, hide rfl⟩
      rw [hge.out] at hE hfl
      have ld1 : (Instr.loadAt 40 (.pointer (some ⟨b, off + k * 28, none⟩))).run Tryd.prog wr = .ok (.agg cs.toArray) wr :=
        load_mid Tryd.underlying40 infoEv hcl fun j hj => by
          have := (hI.out.2.2.cell (p := ⟨b, off + (k * 28 + j), none⟩) hbs).trans (hcc j hj)
          rwa [← Nat.add_assoc] at this
      have st1 : ∀ Z : Array Value, Z.size = 28 → (Instr.storeAt 40 (.pointer (some ⟨wr.heap.size, 0, none⟩)) (.agg cs.toArray)).run Tryd.prog (wr.alloc (.cells Z 40)) = .ok () (wr.alloc (.cells cs.toArray 40)) :=
        fun Z hZ => store_new infoEv hcl hZ hE.one.1 rfl
      have ld2 : (Instr.loadAt 40 (.pointer (some ⟨wr.heap.size, 0, none⟩))).run Tryd.prog (wr.alloc (.cells cs.toArray 40)) = .ok (.agg cs.toArray) (wr.alloc (.cells cs.toArray 40)) :=
        load_new Tryd.underlying40 infoEv hcl rfl
      have HE0 := hide hE
      have HCL := hide hcl
      have HFL := hide hfl
      have L1 := hide ld1
      have S1 := hide st1
      have L2 := hide ld2
      clear hE hfl hcc hcl ld1 st1 ld2
      go_wp2_with (first
        | (refine wpList_load_at 40 (.tmp 27) rfl rfl (.pointer (some ⟨b, off + k * 28, none⟩)) rfl (.agg cs.toArray) L1.out ?_)
        | (refine wpList_store_at 40 (.tmp 11) (.tmp 28) rfl rfl (.pointer (some ⟨wr.heap.size, 0, none⟩)) (.agg cs.toArray) rfl rfl _ (S1.out _ rfl) ?_)
        | (refine wpList_load_at 40 (.tmp 11) rfl rfl (.pointer (some ⟨wr.heap.size, 0, none⟩)) rfl (.agg cs.toArray) L2.out ?_))
      have hwx := hI.out.2.2.alloc hI.out.2.2.size (.cells cs.toArray 40)
      refine (lmay_any e _ _ (HE0.out.below hwx)).mono ?_
      rintro r wd ⟨rfl, hb⟩
      have hrd : Below wr.heap.size wr wd := (below_alloc wr _).trans (hb.mono (by simp))
      have hpvd : wd.heap[wr.heap.size]? = some (.cells cs.toArray 40 (0, 0)) := (hb.block _ (by simp)).trans (heap_alloc_new _ _)
      have LD : Hid ((Instr.loadAt 40 (.pointer (some ⟨wr.heap.size, 0, none⟩))).run Tryd.prog wd = .ok (.agg cs.toArray) wd) := load_obj Tryd.underlying40 infoEv (by rw [List.size_toArray]; exact HCL.out) hpvd
      have HRD := hide hrd
      have HWD := hide (hI.out.2.2.trans (hrd.mono hI.out.2.2.size))
      clear hb hrd hpvd hwx L1 S1 L2
      obtain ⟨q, hq⟩ : ∃ q, Hid (evB e = q) := ⟨_, rfl⟩
      rw [hq.out] at HFL ⊢
      cases q
      · rw [if_neg (by simp), List.append_nil] at HFL
        go_wp2
        go_roundw
        case rel => exact ⟨k + 1, m, ao, d, by omega, by go_num, rfl, by omega, hide (by rw [HFL.out]; exact ⟨hI.out.1, hI.out.2.1.below HRD.out fun cs v h => h, HWD.out⟩)⟩
        case measure => simp [intOf]; omega
      · rw [if_pos rfl] at HFL
        obtain ⟨i0, hi, hz0, hz1, hz2⟩ := info_parts infoE
        have one : Hid (∀ (cs : List Value) (v : Ev), EventC w cs v → ∀ u ∈ cs, u.oneCell' = true) := fun cs v h => h.one.1
        have hO := hide (hI.out.2.1.below (HRD.out.trans ((below_alloc wd (.cells cs.toArray 40)).mono HRD.out.size)) fun cs v h => h)
        have hR := hide (RowsIn.lit (R := EventC w) wd wd.heap.size cs 40 28 e rfl HCL.out HE0.out)
        have hsd := HWD.out.size
        go_wp2_with (first
          | (refine wpList_load_at 40 (.tmp 11) rfl rfl (.pointer (some ⟨wr.heap.size, 0, none⟩)) rfl (.agg cs.toArray) LD.out ?_)
          | (refine wpList_build_one rfl 22 40 (.tmp 32) rfl cs 28 rfl HCL.out (by omega) i0 _ Tryd.underlying22 hi hz0 hz1 ?_)
          | (at_builtin; refine wpList_append_structs (R := EventC w) _ rfl (.tmp 31) (.tmp 33) 22 rfl w.heap.size 40 i0 (.agg (tickCs 0).toArray) 28 304 Tryd.underlying22 hi hz0 hz1 hz2 rfl (by omega) one.out (.slice ao m d) m (List.filter evB (List.take k es)) rfl hO.out hI.out.1 (some ⟨wd.heap.size, 0, none⟩) 1 1 [e] rfl hR.out ?c1 ?c2 ?c3 ?_))
        case c1 => unfold maxLen; omega
        case c2 => omega
        case c3 => simp; omega
        intro ao5 d5 we hown5 hg5
        rw [← HFL.out] at hown5
        have hlt5 : ∀ j, (Value.slice ao m d).ownBlock = some j → w.heap.size ≤ j := fun j hj => by obtain ⟨css, _, ho⟩ := hI.out.2.1; exact (ho.lt j hj).1
        have HWE := hide ((HWD.out.alloc hsd (.cells cs.toArray 40)).grown hg5 (by simp; omega) hlt5)
        have HO5 := hide hown5
        have hlen5 : Hid ((List.filter evB (List.take (k + 1) es)).length = m + 1) := show _ = _ by rw [HFL.out, List.length_append, hI.out.1]; rfl
        clear hown5 hg5 hlt5 hO hR LD
        go_wp2
        go_roundw
        case rel => exact ⟨k + 1, m + 1, ao5, d5, by omega, by go_num, rfl, by omega, hide ⟨hlen5.out, HO5.out, HWE.out⟩⟩
        case measure => simp [intOf]; omega
    · have : k = len0 := by omega
      subst this
      rw [List.take_of_length_le (by omega)] at hI
      obtain ⟨gs, hgs⟩ : ∃ x, Hid (es.filter evB = x) := ⟨_, rfl⟩
      rw [hgs.out] at hI
      have hgb : ∀ e ∈ gs, evB e = true := fun e he => by rw [← hgs.out] at he; exact (List.mem_filter.1 he).2
      have hgl : gs.length = m := hI.out.1
      obtain ⟨ag, dg, eg, RG⟩ := hI.out.2.1.rows (by omega)
      rw [hgl] at eg RG
      cases eg
      have hbw := hI.out.2.2
      have hok : ∀ e ∈ gs, evB e = true ∧ e.Wf := fun e he => by
        obtain ⟨cs, hc⟩ := rows_mem RG e he
        exact ⟨hgb e he, hc.wf⟩
      have hns : ∀ e ∈ gs, ∀ n ∈ evNs e, IsU64 n := fun e he => by
        obtain ⟨cs, hc⟩ := rows_mem RG e he
        exact evNs_b e hc (hgb e he)
      have HB8 := hide (bytes8_of hok hns)
      have HRG := hide (RG.mono (Below.refl _ _) fun cs v h => h.below hbw)
      have HGB := hide hgb
      have HBW := hide hbw
      have HNS := hide hns
      clear RG hbw hI hok hgb hns hgl HNS
      go_wp2_with fail
      refine (lbytes_any gs _ _ _ _ HRG.out HGB.out (by omega)).mono ?_
      rintro r v2 ⟨ao2, n2, d2, rfl, hn2, hn2b, own2, hb⟩
      obtain ⟨ax, dx, ex, R2⟩ := RowIn.ofOwned own2
      cases ex
      have HB2 := hide (HBW.out.trans (hb.mono HBW.out.size))
      have hsw := HBW.out.size
      have main : Hid (∃ (v3 : World) (T : List Int), RowIn .u8 v3 ao2 n2 d2 T ∧ Bytes8 T ∧ Below w.heap.size w v3 ∧ ((n2 = 0 ∧ v3 = v2) ∨ ∃ (g i : Nat), ao2 = some ⟨g, 0, none⟩ ∧ i < n2 ∧ a1.tmod (n2 : Int) = (i : Int) ∧ (v2.cell? ⟨g, i, none⟩).isSome = true ∧ v2.frozen? ⟨g, i, none⟩ = false ∧ v3 = v2.setCell ⟨g, i, none⟩ (.int .u8 a2))) := by
        by_cases h0 : n2 = 0
        · exact hide ⟨v2, bytesOf gs, R2, HB8.out, HB2.out, .inl ⟨h0, rfl⟩⟩
        · rcases own2.2 with ⟨h, _⟩ | ⟨g, cap', cur, hv, hbase, hbl, h1, h2, h3, h4⟩
          · simp only [Value.slice.injEq] at h
            omega
          · simp only [Value.slice.injEq] at hv
            obtain ⟨rfl, _, rfl⟩ := hv
            have hi0 := Int.tmod_nonneg (n2 : Int) hat.1
            have hi1 := Int.tmod_lt_of_pos a1 (show 0 < (n2 : Int) by omega)
            obtain ⟨i, hi⟩ : ∃ i : Nat, a1.tmod (n2 : Int) = (i : Int) := ⟨_, (Int.toNat_of_nonneg hi0).symm⟩
            have hin : i < n2 := by omega
            obtain ⟨b', off', e', _, hc⟩ := R2.cell i hin
            cases e'
            have hp := R2.put i hin a2
            rw [Nat.zero_add] at hp hc
            refine hide ⟨_, _, hp, bytes8_set HB8.out i a2 hwith, HB2.out.setCell (show w.heap.size ≤ g by omega) _, .inr ⟨g, i, rfl, hin, hi, by rw [hc]; rfl, by simp [World.frozen?, hbl], rfl⟩⟩
      obtain ⟨v3, T, RT, hT8, hBT, hway⟩ := main.out
      have HRT := hide RT
      have HT8 := hide hT8
      have HBT := hide hBT
      clear main own2 R2 hb RT hT8 hBT hn2 HRG HGB HB8 HBW HB2 hgs
      have hd2 := HRT.out.cap
      unfold maxLen at hd2
      have h3c := HR3.out.cap
      unfold maxLen at h3c
      have hwa : IntKind.i64.wrap a1 = a1 := by rw [IntKind.wrap_i64]; omega
      rcases hway with ⟨h0, hv3⟩ | ⟨g, i, rfl, hin, hi, hcs, hfz, hv3⟩
      · subst h0
        go_wp2
        rw [← hv3]
        obtain ⟨u3, hu3⟩ : ∃ x, Hid (v3.alloc (.cells #[.slice ao2 0 d2, .slice a3 len3 cap3] 24) = x) := ⟨_, rfl⟩
        have c0 : u3.cell? ⟨v3.heap.size, 0, none⟩ = some (.slice ao2 0 d2) := by rw [← hu3.out]; simp [go_sem]
        have c1 : u3.cell? ⟨v3.heap.size, 1, none⟩ = some (.slice a3 len3 cap3) := by rw [← hu3.out]; simp [go_sem]
        have hsu : v3.heap.size < u3.heap.size := by rw [← hu3.out]; simp
        have HRTu := hide (HRT.out.below (w' := u3) (by rw [← hu3.out]; exact below_alloc _ _))
        have HBu : Hid (Below w.heap.size w u3) := hide (HBT.out.trans (Below.mono (by rw [← hu3.out]; exact below_alloc v3 _) HBT.out.size))
        have HR3u := hide (HR3.out.below HBu.out)
        have hex : Hid (∀ k : Nat, k < 2 → ∃ sa sl cs Sx, u3.cell? ⟨v3.heap.size, k, none⟩ = some (.slice sa sl cs) ∧ RowIn .u8 u3 sa sl cs Sx ∧ Bytes8 Sx) := hide (fun k hk => by
          rcases k with _ | _ | k
          · exact ⟨_, _, _, _, c0, HRTu.out, HT8.out⟩
          · exact ⟨_, _, _, _, c1, HR3u.out, H83.out⟩
          · omega)
        rw [hu3.out]
        clear hu3 hv3 c0 c1 HRT HRTu HR3u HBT
        go_loopw [53] (fun i wr => ∃ k : Nat, k ≤ 2 ∧ i = .int .i64 k ∧ Hid (Below u3.heap.size u3 wr)) (fun i _ => 2 - (intOf i).toNat)
        case atStart => exact ⟨0, by omega, rfl, hide (Below.refl _ _)⟩
        case round =>
          obtain ⟨k, hk, rfl, hI⟩ := hrel
          by_cases hlt : k < 2
          · obtain ⟨sa, sl, cs, Sx, hcell, hRow, h8⟩ := hex.out k hlt
            have hcell' := (hI.out.cell (p := ⟨v3.heap.size, k, none⟩) hsu).trans hcell
            have HRow := hide (hRow.below hI.out)
            have H8 := hide h8
            have hsl := hRow.len
            have hsc := hRow.cap
            unfold maxLen at hsc
            have hk2 : (k : Int) < 2 := by omega
            obtain ⟨xs, q, bd, hD⟩ : ∃ xs q bd, Hid (rDec Sx 4096 [] ⟨0, false⟩ = (xs, q, bd)) := ⟨_, _, _, hide rfl⟩
            have hs := dec_sound h8 4096 [] 0 (Nat.zero_le _) rfl (by simp) (by simp [bytesOf]) xs q bd hD.out
            have hxl : xs.length ≤ 4096 := by
              have := dec_len (b := Sx) 4096 [] ⟨0, false⟩
              rw [hD.out] at this
              simpa using this
            clear hcell hRow h8
            go_wp2_with fail
            refine (dec_any Sx _ _ _ _ HRow.out H8.out).mono ?_
            rintro r v4 ⟨ao4, n4, d4, rfl, R4, hb⟩
            rw [hD.out] at R4 ⊢
            dsimp only at R4 ⊢
            have hn4 := R4.len
            have HB4 := hide (hI.out.trans (hb.mono hI.out.size))
            have HR4 := hide R4
            have HRow4 := hide (HRow.out.below hb)
            clear R4 hb HRow hcell'
            cases bd with
            | false =>
              obtain ⟨hq, hbx, hxb⟩ := hs.1 rfl
              have hql : q = sl := by omega
              subst hql
              have hne : errV false = .nilIface := rfl
              rw [hne]
              obtain ⟨s1, hs1⟩ : ∃ x, Hid (strOfNums Sx = x) := ⟨_, rfl⟩
              have hC : Hid (∀ w', Below v4.heap.size v4 w' → (convert 24 9 (.slice sa q cs)).run Tryd.prog w' = .ok (.string s1) w') := fun w' h => by
                rw [← hs1.out]
                exact conv_row (HRow4.out.below h)
              have hdr : Below v4.heap.size v4 v4.drew := (Below.refl _ _).drew
              have HXB := hide hxb
              have HBX := hide hbx
              clear hs hxb hbx hne hq
              go_wp2_with fail
              refine wp_region_noPanic ?_
              refine wp_region_held_drew (S := fun w' => (convert 24 9 (.slice sa q cs)).run Tryd.prog w' = .ok (.string s1) w') (by kernel_rfl) (hC.out _ hdr) (fun hHeld => ?_)
              refine take_set (i := 0) (v := .nilIface) rfl rfl (by kernel_rfl) (by kernel_rfl) (by kernel_rfl) (fun _ _ _ h => h) (Or.inl ⟨by kernel_rfl, fun w' hSw => ?_⟩) hHeld ?_
              · go_simp
              simp only [List.set_cons_succ, List.set_cons_zero]
              refine take_set (i := 1) (v := .bool true) rfl rfl (by kernel_rfl) (by kernel_rfl) (by kernel_rfl) (fun _ _ _ h => h) (Or.inl ⟨by kernel_rfl, fun w' hSw => ?_⟩) hHeld ?_
              · go_simp
              simp only [List.set_cons_succ, List.set_cons_zero]
              refine take_set (i := 2) (v := .bool true) rfl rfl (by kernel_rfl) (by kernel_rfl) (by kernel_rfl) (fun _ _ _ h => h) (Or.inl ⟨by kernel_rfl, fun w' hSw => ?_⟩) hHeld ?_
              · go_simp
              simp only [List.set_cons_succ, List.set_cons_zero]
              refine take_set (i := 3) (v := .slice ao4 n4 d4) rfl rfl (by kernel_rfl) (by kernel_rfl) (by kernel_rfl) (fun _ _ _ h => h) (Or.inl ⟨by kernel_rfl, fun w' hSw => ?_⟩) hHeld ?_
              · go_simp
              simp only [List.set_cons_succ, List.set_cons_zero]
              refine take_set (i := 6) (v := .slice sa q cs) rfl rfl (by kernel_rfl) (by kernel_rfl) (by kernel_rfl) (fun _ _ _ h => h) (Or.inl ⟨by kernel_rfl, fun w' hSw => ?_⟩) hHeld ?_
              · go_simp
              simp only [List.set_cons_succ, List.set_cons_zero]
              refine take_set (i := 7) (v := .string s1) rfl rfl (by kernel_rfl) (by kernel_rfl) (by kernel_rfl) (fun _ _ _ h => h) (Or.inl ⟨by kernel_rfl, fun w' hSw => ?_⟩) hHeld ?_
              · go_simp
              simp only [List.set_cons_succ, List.set_cons_zero]
              refine wpAnyH_ready (rs := [4]) (by kernel_rfl) (by simp) ?_
              refine AllReadyH.cons (o := _) rfl (fun K hK => ?_) AllReadyH.nil
              go_simp
              refine (lbytes_any xs _ _ _ v4.drew (HR4.out.mono hdr fun cs v h => h.below hdr) HXB.out (by omega)).mono ?_
              rintro r v5 ⟨ao5, n5, d5, rfl, hn5, _, own5, hb⟩
              obtain ⟨ax, dx, ex, R5⟩ := RowIn.ofOwned own5
              cases ex
              have cv5 := conv_row R5
              rw [HBX.out, hs1.out] at cv5
              have hb5 : Below v4.heap.size v4 v5 := hdr.trans hb
              have HB5 := hide hb5
              have HC5 := hide (hC.out v5 hb5)
              clear own5 R5 hb hb5 hn5
              refine hK.out _ _ (HC5.out) (fun hHeld => ?_)
              clear hK K
              refine wpAnyH_ready (rs := [5]) (by kernel_rfl) (by simp) ?_
              refine AllReadyH.cons (o := _) rfl (fun K hK => ?_) AllReadyH.nil
              go_simp
              refine hK.out _ _ (HC5.out) (fun hHeld => ?_)
              clear hK K
              refine take_set (i := 8) (v := .bool false) rfl rfl (by kernel_rfl) (by kernel_rfl) (by kernel_rfl) (fun _ _ _ h => h) (Or.inl ⟨by kernel_rfl, fun w' hSw => ?_⟩) hHeld ?_
              · go_simp
              simp only [List.set_cons_succ, List.set_cons_zero]
              refine take_set (i := 9) (v := .bool false) rfl rfl (by kernel_rfl) (by kernel_rfl) (by kernel_rfl) (fun _ _ _ h => h) (Or.inl ⟨by kernel_rfl, fun w' hSw => ?_⟩) hHeld ?_
              · go_simp
              simp only [List.set_cons_succ, List.set_cons_zero]
              refine take_set (i := 10) (v := .int .i64 (q : Int)) rfl rfl (by kernel_rfl) (by kernel_rfl) (by kernel_rfl) (fun _ _ _ h => h) (Or.inl ⟨by kernel_rfl, fun w' hSw => ?_⟩) hHeld ?_
              · go_simp
              simp only [List.set_cons_succ, List.set_cons_zero]
              refine take_set (i := 11) (v := .slice sa q cs) rfl rfl (by kernel_rfl) (by kernel_rfl) (by kernel_rfl) (fun _ _ _ h => h) (Or.inl ⟨by kernel_rfl, fun w' hSw => ?_⟩) hHeld ?_
              · go_simp
              simp only [List.set_cons_succ, List.set_cons_zero]
              refine take_set (i := 12) (v := .int .i64 (q : Int)) rfl rfl (by kernel_rfl) (by kernel_rfl) (by kernel_rfl) (fun _ _ _ h => h) (Or.inl ⟨by kernel_rfl, fun w' hSw => ?_⟩) hHeld ?_
              · go_simp
              simp only [List.set_cons_succ, List.set_cons_zero]
              refine take_set (i := 13) (v := .bool false) rfl rfl (by kernel_rfl) (by kernel_rfl) (by kernel_rfl) (fun _ _ _ h => h) (Or.inl ⟨by kernel_rfl, fun w' hSw => ?_⟩) hHeld ?_
              · go_simp
              simp only [List.set_cons_succ, List.set_cons_zero]
              refine take_set (i := 14) (v := .bool false) rfl rfl (by kernel_rfl) (by kernel_rfl) (by kernel_rfl) (fun _ _ _ h => h) (Or.inl ⟨by kernel_rfl, fun w' hSw => ?_⟩) hHeld ?_
              · go_simp
              simp only [List.set_cons_succ, List.set_cons_zero]
              refine take_set (i := 15) (v := .bool false) rfl rfl (by kernel_rfl) (by kernel_rfl) (by kernel_rfl) (fun _ _ _ h => h) (Or.inl ⟨by kernel_rfl, fun w' hSw => ?_⟩) hHeld ?_
              · go_simp
              simp only [List.set_cons_succ, List.set_cons_zero]
              refine wpAnyH_done (by kernel_rfl) ?_ _
              refine NoPanic.normal ?_
              have HB6 := hide (HB4.out.trans (HB5.out.mono HB4.out.size))
              clear cv5 hdr
              go_wp2
              go_roundw
              case rel => exact ⟨k + 1, by omega, by go_num, HB6⟩
              case measure => simp [intOf]; omega
            | true =>
              obtain ⟨hx0, hq, hq8⟩ := hs.2 rfl
              subst hx0
              obtain rfl : n4 = 0 := by simpa using hn4.symm
              have hne : errV true = .iface 48 (.int .i64 1) := rfl
              rw [hne]
              have hqm : (q : Int).tmod 8 = 0 := by rw [Int.tmod_eq_emod_of_nonneg (by omega)]; omega
              have hd1 : decide ((sl : Int) < (q : Int)) = false := decide_eq_false (by omega)
              have hd2' : decide ((q : Int) < 0) = false := decide_eq_false (by omega)
              clear hs hne
              go_wp2_with fail
              go_quiet (fail)
              have HG4 : Hid (∀ n, (v4.drewN n).cell? ⟨0, 0, none⟩ = some (.iface 94 (.agg #[.pointer (some ⟨1, 45, none⟩)]))) := hide (fun n => ((below_drewN (HBu.out.trans (HB4.out.mono HBu.out.size)) n).cell (p := ⟨0, 0, none⟩) hlt0).trans HG.out)
              go_wp2_with (go_at_call 9; refine (number_any _ (HG4.out _)).mono ?_; rintro r v5 ⟨rfl, hb5⟩)
              go_roundw
              case rel => exact ⟨k + 1, by omega, by go_num, hide ((below_drewN HB4.out _).trans (hb5.mono (by have := HB4.out.size; exact this)))⟩
              case measure => simp [intOf]; omega
          · have : k = 2 := by omega
            subst this
            go_wp2
            go_ret
            exact ⟨rfl, HBu.out.trans (hI.out.mono HBu.out.size)⟩
      · obtain ⟨cv, hcv⟩ := Option.isSome_iff_exists.1 hcs
        have hn0 : ¬ (n2 : Int) = 0 := by omega
        have hn0p : 0 < (n2 : Int) := by omega
        clear hcs
        have hsz : Hid (v2.heap.size = v3.heap.size) := by rw [hv3]; exact hide (by simp)
        have HV3 := hide hv3
        clear hv3
        go_wp2
        have hv3 := HV3.out
        rw [← hv3, hsz.out, show decide (0 < n2) = true from decide_eq_true (by omega)]
        clear HV3 hsz hn0 hn0p hin hi hfz hcv
        obtain ⟨u3, hu3⟩ : ∃ x, Hid (v3.alloc (.cells #[.slice (some ⟨g, 0, none⟩) n2 d2, .slice a3 len3 cap3] 24) = x) := ⟨_, rfl⟩
        have c0 : u3.cell? ⟨v3.heap.size, 0, none⟩ = some (.slice (some ⟨g, 0, none⟩) n2 d2) := by rw [← hu3.out]; simp [go_sem]
        have c1 : u3.cell? ⟨v3.heap.size, 1, none⟩ = some (.slice a3 len3 cap3) := by rw [← hu3.out]; simp [go_sem]
        have hsu : v3.heap.size < u3.heap.size := by rw [← hu3.out]; simp
        have HRTu := hide (HRT.out.below (w' := u3) (by rw [← hu3.out]; exact below_alloc _ _))
        have HBu : Hid (Below w.heap.size w u3) := hide (HBT.out.trans (Below.mono (by rw [← hu3.out]; exact below_alloc v3 _) HBT.out.size))
        have HR3u := hide (HR3.out.below HBu.out)
        have hex : Hid (∀ k : Nat, k < 2 → ∃ sa sl cs Sx, u3.cell? ⟨v3.heap.size, k, none⟩ = some (.slice sa sl cs) ∧ RowIn .u8 u3 sa sl cs Sx ∧ Bytes8 Sx) := hide (fun k hk => by
          rcases k with _ | _ | k
          · exact ⟨_, _, _, _, c0, HRTu.out, HT8.out⟩
          · exact ⟨_, _, _, _, c1, HR3u.out, H83.out⟩
          · omega)
        rw [hu3.out]
        clear hu3 hv3 c0 c1 HRT HRTu HR3u HBT
        go_loopw [53] (fun i wr => ∃ k : Nat, k ≤ 2 ∧ i = .int .i64 k ∧ Hid (Below u3.heap.size u3 wr)) (fun i _ => 2 - (intOf i).toNat)
        case atStart => exact ⟨0, by omega, rfl, hide (Below.refl _ _)⟩
        case round =>
          obtain ⟨k, hk, rfl, hI⟩ := hrel
          by_cases hlt : k < 2
          · obtain ⟨sa, sl, cs, Sx, hcell, hRow, h8⟩ := hex.out k hlt
            have hcell' := (hI.out.cell (p := ⟨v3.heap.size, k, none⟩) hsu).trans hcell
            have HRow := hide (hRow.below hI.out)
            have H8 := hide h8
            have hsl := hRow.len
            have hsc := hRow.cap
            unfold maxLen at hsc
            have hk2 : (k : Int) < 2 := by omega
            obtain ⟨xs, q, bd, hD⟩ : ∃ xs q bd, Hid (rDec Sx 4096 [] ⟨0, false⟩ = (xs, q, bd)) := ⟨_, _, _, hide rfl⟩
            have hs := dec_sound h8 4096 [] 0 (Nat.zero_le _) rfl (by simp) (by simp [bytesOf]) xs q bd hD.out
            have hxl : xs.length ≤ 4096 := by
              have := dec_len (b := Sx) 4096 [] ⟨0, false⟩
              rw [hD.out] at this
              simpa using this
            clear hcell hRow h8
            go_wp2_with fail
            refine (dec_any Sx _ _ _ _ HRow.out H8.out).mono ?_
            rintro r v4 ⟨ao4, n4, d4, rfl, R4, hb⟩
            rw [hD.out] at R4 ⊢
            dsimp only at R4 ⊢
            have hn4 := R4.len
            have HB4 := hide (hI.out.trans (hb.mono hI.out.size))
            have HR4 := hide R4
            have HRow4 := hide (HRow.out.below hb)
            clear R4 hb HRow hcell'
            cases bd with
            | false =>
              obtain ⟨hq, hbx, hxb⟩ := hs.1 rfl
              have hql : q = sl := by omega
              subst hql
              have hne : errV false = .nilIface := rfl
              rw [hne]
              obtain ⟨s1, hs1⟩ : ∃ x, Hid (strOfNums Sx = x) := ⟨_, rfl⟩
              have hC : Hid (∀ w', Below v4.heap.size v4 w' → (convert 24 9 (.slice sa q cs)).run Tryd.prog w' = .ok (.string s1) w') := fun w' h => by
                rw [← hs1.out]
                exact conv_row (HRow4.out.below h)
              have hdr : Below v4.heap.size v4 v4.drew := (Below.refl _ _).drew
              have HXB := hide hxb
              have HBX := hide hbx
              clear hs hxb hbx hne hq
              go_wp2_with fail
              refine wp_region_noPanic ?_
              refine wp_region_held_drew (S := fun w' => (convert 24 9 (.slice sa q cs)).run Tryd.prog w' = .ok (.string s1) w') (by kernel_rfl) (hC.out _ hdr) (fun hHeld => ?_)
              refine take_set (i := 0) (v := .nilIface) rfl rfl (by kernel_rfl) (by kernel_rfl) (by kernel_rfl) (fun _ _ _ h => h) (Or.inl ⟨by kernel_rfl, fun w' hSw => ?_⟩) hHeld ?_
              · go_simp
              simp only [List.set_cons_succ, List.set_cons_zero]
              refine take_set (i := 1) (v := .bool true) rfl rfl (by kernel_rfl) (by kernel_rfl) (by kernel_rfl) (fun _ _ _ h => h) (Or.inl ⟨by kernel_rfl, fun w' hSw => ?_⟩) hHeld ?_
              · go_simp
              simp only [List.set_cons_succ, List.set_cons_zero]
              refine take_set (i := 2) (v := .bool true) rfl rfl (by kernel_rfl) (by kernel_rfl) (by kernel_rfl) (fun _ _ _ h => h) (Or.inl ⟨by kernel_rfl, fun w' hSw => ?_⟩) hHeld ?_
              · go_simp
              simp only [List.set_cons_succ, List.set_cons_zero]
              refine take_set (i := 3) (v := .slice ao4 n4 d4) rfl rfl (by kernel_rfl) (by kernel_rfl) (by kernel_rfl) (fun _ _ _ h => h) (Or.inl ⟨by kernel_rfl, fun w' hSw => ?_⟩) hHeld ?_
              · go_simp
              simp only [List.set_cons_succ, List.set_cons_zero]
              refine take_set (i := 6) (v := .slice sa q cs) rfl rfl (by kernel_rfl) (by kernel_rfl) (by kernel_rfl) (fun _ _ _ h => h) (Or.inl ⟨by kernel_rfl, fun w' hSw => ?_⟩) hHeld ?_
              · go_simp
              simp only [List.set_cons_succ, List.set_cons_zero]
              refine take_set (i := 7) (v := .string s1) rfl rfl (by kernel_rfl) (by kernel_rfl) (by kernel_rfl) (fun _ _ _ h => h) (Or.inl ⟨by kernel_rfl, fun w' hSw => ?_⟩) hHeld ?_
              · go_simp
              simp only [List.set_cons_succ, List.set_cons_zero]
              refine wpAnyH_ready (rs := [4]) (by kernel_rfl) (by simp) ?_
              refine AllReadyH.cons (o := _) rfl (fun K hK => ?_) AllReadyH.nil
              go_simp
              refine (lbytes_any xs _ _ _ v4.drew (HR4.out.mono hdr fun cs v h => h.below hdr) HXB.out (by omega)).mono ?_
              rintro r v5 ⟨ao5, n5, d5, rfl, hn5, _, own5, hb⟩
              obtain ⟨ax, dx, ex, R5⟩ := RowIn.ofOwned own5
              cases ex
              have cv5 := conv_row R5
              rw [HBX.out, hs1.out] at cv5
              have hb5 : Below v4.heap.size v4 v5 := hdr.trans hb
              have HB5 := hide hb5
              have HC5 := hide (hC.out v5 hb5)
              clear own5 R5 hb hb5 hn5
              refine hK.out _ _ (HC5.out) (fun hHeld => ?_)
              clear hK K
              refine wpAnyH_ready (rs := [5]) (by kernel_rfl) (by simp) ?_
              refine AllReadyH.cons (o := _) rfl (fun K hK => ?_) AllReadyH.nil
              go_simp
              refine hK.out _ _ (HC5.out) (fun hHeld => ?_)
              clear hK K
              refine take_set (i := 8) (v := .bool false) rfl rfl (by kernel_rfl) (by kernel_rfl) (by kernel_rfl) (fun _ _ _ h => h) (Or.inl ⟨by kernel_rfl, fun w' hSw => ?_⟩) hHeld ?_
              · go_simp
              simp only [List.set_cons_succ, List.set_cons_zero]
              refine take_set (i := 9) (v := .bool false) rfl rfl (by kernel_rfl) (by kernel_rfl) (by kernel_rfl) (fun _ _ _ h => h) (Or.inl ⟨by kernel_rfl, fun w' hSw => ?_⟩) hHeld ?_
              · go_simp
              simp only [List.set_cons_succ, List.set_cons_zero]
              refine take_set (i := 10) (v := .int .i64 (q : Int)) rfl rfl (by kernel_rfl) (by kernel_rfl) (by kernel_rfl) (fun _ _ _ h => h) (Or.inl ⟨by kernel_rfl, fun w' hSw => ?_⟩) hHeld ?_
              · go_simp
              simp only [List.set_cons_succ, List.set_cons_zero]
              refine take_set (i := 11) (v := .slice sa q cs) rfl rfl (by kernel_rfl) (by kernel_rfl) (by kernel_rfl) (fun _ _ _ h => h) (Or.inl ⟨by kernel_rfl, fun w' hSw => ?_⟩) hHeld ?_
              · go_simp
              simp only [List.set_cons_succ, List.set_cons_zero]
              refine take_set (i := 12) (v := .int .i64 (q : Int)) rfl rfl (by kernel_rfl) (by kernel_rfl) (by kernel_rfl) (fun _ _ _ h => h) (Or.inl ⟨by kernel_rfl, fun w' hSw => ?_⟩) hHeld ?_
              · go_simp
              simp only [List.set_cons_succ, List.set_cons_zero]
              refine take_set (i := 13) (v := .bool false) rfl rfl (by kernel_rfl) (by kernel_rfl) (by kernel_rfl) (fun _ _ _ h => h) (Or.inl ⟨by kernel_rfl, fun w' hSw => ?_⟩) hHeld ?_
              · go_simp
              simp only [List.set_cons_succ, List.set_cons_zero]
              refine take_set (i := 14) (v := .bool false) rfl rfl (by kernel_rfl) (by kernel_rfl) (by kernel_rfl) (fun _ _ _ h => h) (Or.inl ⟨by kernel_rfl, fun w' hSw => ?_⟩) hHeld ?_
              · go_simp
              simp only [List.set_cons_succ, List.set_cons_zero]
              refine take_set (i := 15) (v := .bool false) rfl rfl (by kernel_rfl) (by kernel_rfl) (by kernel_rfl) (fun _ _ _ h => h) (Or.inl ⟨by kernel_rfl, fun w' hSw => ?_⟩) hHeld ?_
              · go_simp
              simp only [List.set_cons_succ, List.set_cons_zero]
              refine wpAnyH_done (by kernel_rfl) ?_ _
              refine NoPanic.normal ?_
              have HB6 := hide (HB4.out.trans (HB5.out.mono HB4.out.size))
              clear cv5 hdr
              go_wp2
              go_roundw
              case rel => exact ⟨k + 1, by omega, by go_num, HB6⟩
              case measure => simp [intOf]; omega
            | true =>
              obtain ⟨hx0, hq, hq8⟩ := hs.2 rfl
              subst hx0
              obtain rfl : n4 = 0 := by simpa using hn4.symm
              have hne : errV true = .iface 48 (.int .i64 1) := rfl
              rw [hne]
              have hqm : (q : Int).tmod 8 = 0 := by rw [Int.tmod_eq_emod_of_nonneg (by omega)]; omega
              have hd1 : decide ((sl : Int) < (q : Int)) = false := decide_eq_false (by omega)
              have hd2' : decide ((q : Int) < 0) = false := decide_eq_false (by omega)
              clear hs hne
              go_wp2_with fail
              go_quiet (fail)
              have HG4 : Hid (∀ n, (v4.drewN n).cell? ⟨0, 0, none⟩ = some (.iface 94 (.agg #[.pointer (some ⟨1, 45, none⟩)]))) := hide (fun n => ((below_drewN (HBu.out.trans (HB4.out.mono HBu.out.size)) n).cell (p := ⟨0, 0, none⟩) hlt0).trans HG.out)
              go_wp2_with (go_at_call 9; refine (number_any _ (HG4.out _)).mono ?_; rintro r v5 ⟨rfl, hb5⟩)
              go_roundw
              case rel => exact ⟨k + 1, by omega, by go_num, hide ((below_drewN HB4.out _).trans (hb5.mono (by have := HB4.out.size; exact this)))⟩
              case measure => simp [intOf]; omega
          · have : k = 2 := by omega
            subst this
            go_wp2
            go_ret
            exact ⟨rfl, HBu.out.trans (hI.out.mono HBu.out.size)⟩
end Go.Proofs.YtpmldjcfmclkkaaDoor

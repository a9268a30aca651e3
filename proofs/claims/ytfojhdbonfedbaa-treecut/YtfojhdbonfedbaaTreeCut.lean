/-
  what is cut off can be laid anew where its parent is, and what is left is as it was but its heights (TreeCut is true of every input).
-/
import Derived.Test.YtfojhdbonfedbaaRows

import Derived.WalkKit

import Derived.Below

import Derived.ProofKit

import Derived.OpenShut

import Derived.ShutString

import Derived.ChangeOld

import Derived.Test.YtfojhdbonfedbaaShapes

import Derived.Test.YtfojhdbonfedbaaTAnew

namespace Go.Proofs.Ytfojhdbonfedbaa.treeCut

open Go.ChangeShapes Go.WideShapes Go.ChangeAt Go.RowKit

set_option linter.unusedVariables false

theorem own : ownKnob Try.prog.godebug = none := by kernel_rfl
theorem laidOut : laidOutB Try.prog = true := by kernel_rfl
theorem cells4 : Try.prog.cellsOf 4 = 1 := by kernel_rfl
theorem cells5 : Try.prog.cellsOf 5 = 1 := by kernel_rfl
theorem cells22 : Try.prog.cellsOf 22 = 1 := by kernel_rfl
theorem cells28 : Try.prog.cellsOf 28 = 4 := by kernel_rfl
theorem has5 : Sh.Has Try.prog (.int .u8) (.inl 5) := Try.underlying5
theorem has28 : Sh.Has Try.prog (.st (.pair (.int .u8) (.pair (.int .u8) (.pair (.int .u8) (.pair (.int .u8) .unit))))) (.inl 28) := Sh.has_st Try.underlying28 (by kernel_rfl) (Sh.has_pair rfl (by kernel_rfl) has5 (Sh.has_pair rfl (by kernel_rfl) has5 (Sh.has_pair rfl (by kernel_rfl) has5 (Sh.has_pair rfl (by kernel_rfl) has5 Sh.has_unit))))
theorem has22 : Sh.Has Try.prog (.slice (.st (.pair (.int .u8) (.pair (.int .u8) (.pair (.int .u8) (.pair (.int .u8) .unit)))))) (.inl 22) := Sh.has_slice Try.underlying22 (by kernel_rfl) (by decide) has28

set_option maxRecDepth 100000 in
set_option maxHeartbeats 8000000 in
set_option maxRecDepth 100000 in
theorem walk (a0 : Option Addr) (len0 cap0 : Nat) (e0 : Sh.Val (.slice (.st (.pair (.int .u8) (.pair (.int .u8) (.pair (.int .u8) (.pair (.int .u8) .unit))))))) (a1 : Int) (w : World) (w0 : Sh.In (.slice (.st (.pair (.int .u8) (.pair (.int .u8) (.pair (.int .u8) (.pair (.int .u8) .unit)))))) w [.slice a0 len0 cap0] e0) (w1 : (Lit.int .u8 a1).wf = true) :
    Calls Try.prog 3 #[.slice a0 len0 cap0, .int .u8 a1] w fun e w' => e = .returned (.bool true) ∧ Below w.heap.size w w' := by
  have HA := hide (acts_of w0)
  have hx := u8_wf w1
  unfold u8B at hx
  clear w0 w1
  have hml : len0 ≤ 9223372036854775807 := by have := HA.out.1; unfold maxLen at this; omega
  go_enter Try.func3, Try.ntmps3
  go_wp2_with fail
  refine (awake_any _).mono ?_
  rintro e w1 ⟨rfl, hb1⟩
  have HB1 := hide hb1
  clear hb1
  go_wp2_with fail
  refine (of_any 1 2 w1 (u_lit (by simp))).mono ?_
  rintro e w2 ⟨p, rfl, hT, hB⟩
  have HB2 := hide hB
  have HT := hide hT
  clear hT hB
  go_wp2_with fail
  refine (of_any 1 2 w2 (u_lit (by simp))).mono ?_
  rintro e w3 ⟨p2, rfl, hU, hB⟩
  have HTT := hide (two_made HT.out hU HB2.out hB)
  have HB := hide (HB2.out.trans (hB.mono HB2.out.size))
  clear HT HB2 hB hU
  go_wp2
  go_loopw [33] (fun v wr => ∃ i : Nat, v = .int .i64 (i : Int) ∧ i ≤ len0 ∧ Hid (∃ bs, Small bs ∧ Two w1.heap.size (fun _ => False) p bs p2 bs wr ∧ Below w1.heap.size w1 wr)) (fun v _ => len0 - (intOf v).toNat)
  case atStart => exact ⟨0, rfl, Nat.zero_le _, hide ⟨_, small_one, HTT.out, HB.out⟩⟩
  case round =>
    clear HTT HB
    obtain ⟨i, rfl, hil, hI⟩ := hrel
    obtain ⟨bs, hO, hT, hB⟩ := hI.out
    have HO := hide hO
    have HT := hide hT
    have HB := hide hB
    clear hI hO hT hB
    by_cases hlt : i < len0
    · have HW := hide (HB1.out.trans (HB.out.mono HB1.out.size))
      obtain ⟨b, off, rfl, hbl, hc⟩ := (HA.out.below HW.out).2 (by omega)
      obtain ⟨x0, x1, x2, x3, b0, b1, b2, b3, h4⟩ := hc i hlt
      unfold u8B at b0 b1 b2 b3
      have LD := hide (act_load h4)
      have ST := hide (act_store wr x0 x1 x2 x3)
      have HN := hide (OAt.new wr (.cells #[.int .u8 x0, .int .u8 x1, .int .u8 x2, .int .u8 x3] 28))
      replace HT := hide (HT.out.new (.cells #[.int .u8 x0, .int .u8 x1, .int .u8 x2, .int .u8 x3] 28))
      replace HB := hide (HB.out.alloc HB.out.size (.cells #[.int .u8 x0, .int .u8 x1, .int .u8 x2, .int .u8 x3] 28))
      have hli : (i : Int) < (len0 : Int) := by omega
      clear hc h4 HW
      go_upto_region 7 with (first
        | (refine wpList_load_at 28 (.tmp 35) rfl rfl (.pointer (some ⟨b, off + i * 4, none⟩)) rfl (.agg _) LD.out ?_)
        | (refine wpList_store_at 28 (.tmp 8) (.tmp 36) rfl rfl (.pointer (some ⟨wr.heap.size, 0, none⟩)) (.agg _) rfl rfl _ ST.out ?_))
      clear LD ST
      go_frame
      generalize wr.alloc (.cells #[.int .u8 x0, .int .u8 x1, .int .u8 x2, .int .u8 x3] 28) = wa at HN HT HB ⊢
      have q1 := HN.out.cell 1
      have q2 := HN.out.cell 2
      have q3 := HN.out.cell 3
      simp only [List.getElem?_toArray, List.getElem?_cons_zero, List.getElem?_cons_succ] at q1 q2 q3
      generalize wr.heap.size = h at HN HT q1 q2 q3 ⊢
      go_wp2_with fail
      refine (two_add w1.heap.size _ p bs p2 bs (x1 % 24) (x2 % 24) (x3 % 40) wa HB.out.size HT.out HO.out.ok (by unfold U64; omega) (by unfold U64; omega) (by unfold I64; omega)).mono ?_
      rintro e w3 ⟨rfl, bs', hN, hT, hB, hK⟩
      have q1' : w3.cell? ⟨h, 1, none⟩ = some (.int .u8 x1) := (World.cell?_of_block (a := ⟨h, 1, none⟩) (hK h rfl)).trans q1
      have q2' : w3.cell? ⟨h, 2, none⟩ = some (.int .u8 x2) := (World.cell?_of_block (a := ⟨h, 2, none⟩) (hK h rfl)).trans q2
      have q3' : w3.cell? ⟨h, 3, none⟩ = some (.int .u8 x3) := (World.cell?_of_block (a := ⟨h, 3, none⟩) (hK h rfl)).trans q3
      have HN1 := hide hN
      replace HT := hide hT.swap
      replace HB := hide (HB.out.trans hB)
      generalize errV (addE bs (x1 % 24) (x2 % 24) (x3 % 40)) = E
      clear hN hT hB hK HN q1 q2 q3
      go_wp2_with fail
      refine (two_add w1.heap.size _ p2 bs p bs' (x1 % 24) (x2 % 24) (x3 % 40) w3 HB.out.size HT.out HO.out.ok (by unfold U64; omega) (by unfold U64; omega) (by unfold I64; omega)).mono ?_
      rintro e w4 ⟨rfl, bs2, hN, hT, hB, hK⟩
      obtain rfl := HN1.out.one HO.out.ok hN
      have HR : Hid (∃ bs, Small bs ∧ Two w1.heap.size (fun _ => False) p bs p2 bs w4 ∧ Below w1.heap.size w1 w4) := ⟨bs', hN.small HO.out (by omega) (by omega), hT.swap.free, HB.out.trans hB⟩
      generalize errV (addE bs (x1 % 24) (x2 % 24) (x3 % 40)) = E2
      clear hN hT hB hK HN1 q1' q2' q3' HO HT HB
      go_wp2
      go_roundw
      case rel => exact ⟨i + 1, by go_num, by omega, HR⟩
      case measure => simp [intOf]; omega
    · obtain rfl : i = len0 := by omega
      have hX : 0 ≤ a1 % 24 ∧ a1 % 24 < 24 := by omega
      go_upto_region 11 with fail
      have hU : U64 (a1 % 24) := by unfold U64; omega
      generalize a1 % 24 = R at hX hU ⊢
      have HUT := hide HT.out.swap
      obtain ⟨F, G, hF, hG, _⟩ := HT.out
      have HH := hide (has_any F p bs R wr hF HO.out.ok hU)
      cases hix : idx bs R with
      | none =>
        rw [hix] at HH
        have HC := hide (cut_none F p bs R wr hF HO.out.ok hU hix)
        have HL1 := hide (len_any F p bs wr hF HO.out.ok)
        have HL2 := hide (len_any G p2 bs wr hG HO.out.ok)
        have HE := hide (HB1.out.trans (HB.out.mono HB1.out.size))
        clear hF hG HT HUT HB hix hX HO
        generalize bs.length = n at HL1 HL2
        go_wp2_with (first
          | (go_at_call 13; with_reducible refine Calls.mono HH.out ?_; rintro e w' ⟨rfl, hw⟩; obtain rfl : _ = w' := hw.symm)
          | (go_at_call 14; with_reducible refine Calls.mono HC.out ?_; rintro e w' ⟨rfl, hw⟩; obtain rfl : _ = w' := hw.symm)
          | (go_at_call 15; with_reducible refine Calls.mono HL1.out ?_; rintro e w' ⟨rfl, hw⟩; obtain rfl : _ = w' := hw.symm)
          | (go_at_call 15; with_reducible refine Calls.mono HL2.out ?_; rintro e w' ⟨rfl, hw⟩; obtain rfl : _ = w' := hw.symm))
        all_goals (go_ret; exact ⟨rfl, HE.out⟩)
      | some b =>
        rw [hix] at HH
        have HIX := hide hix
        have HG := hide (get_any G p2 bs R b wr hG HO.out.ok hU hix)
        obtain ⟨hbl, hbr⟩ := idx_some hix
        unfold getV at HG
        obtain ⟨H, hH⟩ : ∃ H, Hid ((tb bs b).high = H) := ⟨_, rfl⟩
        rw [hH.out] at HG
        have HZ := hide (HO.out.slot b hbl)
        generalize (tb bs (tb bs b).par).root = G1 at HG
        generalize (tb bs b).slot = G2 at HG
        clear hF hG hix
        go_wp2_with (go_at_call 13; with_reducible refine Calls.mono HH.out ?_; rintro e w' ⟨rfl, hw⟩; obtain rfl : _ = w' := hw.symm)
        refine HG.out.mono ?_
        rintro e w5 ⟨rfl, hB5⟩
        replace HT := hide (HT.out.below hB5)
        replace HB := hide (HB.out.trans (hB5.mono HB.out.size))
        clear hB5 HG HH HUT
        go_wp2_with fail
        refine (two_cut w1.heap.size p bs p2 bs R b w5 HB.out.size HT.out HO.out.ok hU HIX.out (by have := HO.out.len; omega)).mono ?_
        rintro e w6 ⟨gv, ts, rfl, hown, hO6, hC6, hT6, hB6⟩
        obtain ⟨gn, hgn⟩ : ∃ n, Hid ((GL bs b bs.length).length = n) := ⟨_, rfl⟩
        have hform : ∃ ga gc, gv = .slice ga gn gc := by
          rw [hgn.out] at hown
          rcases hown.2 with ⟨e, h⟩ | ⟨g', cap, cur, e, _⟩
          · exact ⟨_, _, e.trans (by rw [← show gn = 0 from h])⟩
          · exact ⟨_, _, e⟩
        obtain ⟨ga, gc, rfl⟩ := hform
        have HGO := hide hown
        have HO6 := hide hO6
        have HC6 := hide hC6
        replace HT := hide hT6
        replace HB := hide (HB.out.trans hB6)
        have hlen : gn + ts.length = bs.length := by
          have := SL_GL_len bs b bs.length hbl
          have := hC6.len
          rw [← hgn.out]; omega
        have hn24 := HO.out.len
        have hfirst : (tb ts 0).root = R := by
          rw [hC6.root 0 (by simp [SL]), ← hbr]
          simp [SL]
        obtain ⟨F6, G6, hF6, hG6, _⟩ := HT.out
        have HL1 := hide (len_any F6 p ts w6 hF6 hO6)
        have HL2 := hide (len_any G6 p2 bs w6 hG6 HO.out.ok)
        have HF := hide (first_any F6 p ts w6 hF6 hO6)
        have HRT := hide (roots_any 49 sorts49 F6 p ts w6 hF6 hO6 (by omega))
        rw [hfirst] at HF
        have hts := hO6.pos
        have HLEN := hide hlen
        have HFI := hide hfirst
        clear hown hO6 hC6 hT6 hB6 hF6 hG6 hfirst
        obtain ⟨n6, hn6⟩ : ∃ n, Hid (ts.length = n) := ⟨_, rfl⟩
        obtain ⟨n, hn⟩ : ∃ n, Hid (bs.length = n) := ⟨_, rfl⟩
        rw [hn6.out] at HL1 hlen hts
        rw [hn.out] at HL2 hlen hn24 hbl
        have hsum : ((gn : Int) + (n6 : Int)) = (n : Int) := by omega
        clear hlen
        go_wp2_with (first
          | (go_at_call 15; with_reducible refine Calls.mono HL1.out ?_; rintro e w' ⟨rfl, hw⟩; obtain rfl : _ = w' := hw.symm)
          | (go_at_call 15; with_reducible refine Calls.mono HL2.out ?_; rintro e w' ⟨rfl, hw⟩; obtain rfl : _ = w' := hw.symm)
          | (go_at_call 17; with_reducible refine Calls.mono HF.out ?_; rintro e w' ⟨rfl, hw⟩; obtain rfl : _ = w' := hw.symm))
        refine HRT.out.mono ?_
        rintro e w7 ⟨v, rfl, hrow, hB7⟩
        obtain ⟨ra, rc, rfl, hR⟩ := RowIn.ofOwned hrow
        rw [hn6.out] at hR
        have HR := hide hR
        have HT7 := hide (HT.out.below hB7)
        have HB7 := hide (HB.out.trans (hB7.mono HB.out.size))
        have HGO7 := hide (owns_below HGO.out hB7)
        clear hR hrow hB7 HL1 HL2 HF HRT HT HB HGO
        rw [hn6.out]
        go_wp2
        go_loopw [113] (fun v w8 => ∃ k : Nat, v = .int .i64 (k : Int) ∧ k ≤ n6 ∧ Hid (Below w7.heap.size w7 w8)) (fun v _ => n6 - (intOf v).toNat)
        case atStart => exact ⟨0, rfl, Nat.zero_le _, hide (Below.refl _ _)⟩
        case round =>
          obtain ⟨k, rfl, hk6, hI⟩ := hrel
          by_cases hkl : k < n6
          · obtain ⟨rb, roff, rfl, hrb, hrc⟩ := HR.out.cell k hkl
            replace hrc := (hI.out.cell (p := ⟨rb, roff + k, none⟩) hrb).trans hrc
            obtain ⟨X, q, j, P1, P2, Z, h, J, hX1, hXU, hXq, hXj, hV1, hV2, hJ, hJ24, hP⟩ := cut_pair (k := k) HO.out HO6.out HC6.out (by rw [hn.out]; exact hbl) hbr (by rw [hn6.out]; exact hkl)
            rw [hX1] at hrc
            rw [hH.out] at hJ
            obtain ⟨F8, G8, hF8, hG8, _⟩ := (HT7.out.below hI.out)
            have HG1 := hide (get_any F8 p ts X q wr hF8 HO6.out hXU hXq)
            have HG2 : Hid (∀ w', Below wr.heap.size wr w' → Calls Try.prog 16 #[.pointer (some ⟨p2, 0, none⟩), .int .u64 X] w' fun e w'' => e = .returned (getV bs j) ∧ Below w'.heap.size w' w'') := fun w' hb => get_any G8 p2 bs X j w' (hG8.below hb) HO.out.ok hXU hXj
            rw [hV1] at HG1
            rw [hV2] at HG2
            have hsub : (J : Int) - (H : Int) = (h : Int) := by omega
            have hJh : h ≤ 24 ∧ H ≤ 24 := by omega
            obtain ⟨hh24, hH24⟩ := hJh
            have hkn : (k : Int) < (n6 : Int) := by omega
            clear hF8 hG8 hX1 hXU hXq hXj hV1 hV2 hJ
            have key : ((X == R) = true ∧ (X != R) = false ∧ decide (X = R) = true) ∨ ((X == R) = false ∧ (X != R) = true ∧ decide (X = R) = false ∧ P1 = P2) := by
              by_cases e : X = R
              · exact .inl (by simp [e])
              · exact .inr (by simp [e, hP e])
            clear hP
            rcases key with ⟨e1, e2, e3⟩ | ⟨e1, e2, e3, rfl⟩
            · go_wp2_with fail
              refine HG1.out.mono ?_
              rintro e w9 ⟨rfl, hB9⟩
              have HG3 := hide (HG2.out w9 hB9)
              have HI9 := hide (hI.out.trans (hB9.mono hI.out.size))
              clear hB9 HG1 HG2 hI hrc
              go_wp2_with fail
              refine HG3.out.mono ?_
              rintro e w10 ⟨rfl, hB10⟩
              have HI10 := hide (HI9.out.trans (hB10.mono HI9.out.size))
              clear hB10 HG3 HI9
              go_wp2
              go_roundw
              case rel => exact ⟨k + 1, by go_num, by omega, HI10⟩
              case measure => simp [intOf]; omega
            · go_wp2_with fail
              refine HG1.out.mono ?_
              rintro e w9 ⟨rfl, hB9⟩
              have HG3 := hide (HG2.out w9 hB9)
              have HI9 := hide (hI.out.trans (hB9.mono hI.out.size))
              clear hB9 HG1 HG2 hI hrc
              go_wp2_with fail
              refine HG3.out.mono ?_
              rintro e w10 ⟨rfl, hB10⟩
              have HI10 := hide (HI9.out.trans (hB10.mono HI9.out.size))
              clear hB10 HG3 HI9
              go_wp2
              go_roundw
              case rel => exact ⟨k + 1, by go_num, by omega, HI10⟩
              case measure => simp [intOf]; omega
          · obtain rfl : k = n6 := by omega
            have HAN := hide (Anew.start HO.out HO6.out HC6.out (by rw [hn.out]; exact hbl) hbr)
            have hgs : Hid ((rise (GL bs b bs.length)).length = gn) := by rw [rise_len]; exact hgn
            have HU := hide (fun t ht => gone_u64 (b := b) (t := t) HO.out.ok ht)
            have HND := hide (rise_nodup (GL_nodup HO.out.ok b bs.length (Nat.le_refl _)))
            have HT8 := hide (HT7.out.below hI.out)
            have HB8 := hide (HB7.out.trans (hI.out.mono HB7.out.size))
            have HG8 := hide (owns_below HGO7.out hI.out)
            rw [hgn.out] at HG8
            have hUR := hU
            obtain ⟨gs, hgse⟩ : ∃ gs, Hid (rise (GL bs b bs.length) = gs) := ⟨_, rfl⟩
            rw [hgse.out] at HAN hgs HU HND HG8
            rw [hn6.out] at HAN
            have hsm : k + gn ≤ 24 := by omega
            clear hgse HT7 HB7 HGO7 HC6 HO6 HR hI HFI HLEN hgn
            go_wp2
            go_loopw [164] (fun v w9 => ∃ j : Nat, v = .int .i64 (j : Int) ∧ j ≤ gn ∧ Hid (∃ ts', Anew ts' R gs k j ∧ Two w1.heap.size (fun i => (Value.slice ga gn gc).ownBlock = some i) p ts' p2 bs w9 ∧ w9.ownsRow w5.heap.size 26 1 (.slice ga gn gc) gn (gs.map (Value.int .u64)) ∧ Below w1.heap.size w1 w9)) (fun v _ => gn - (intOf v).toNat)
            case atStart => exact ⟨0, rfl, Nat.zero_le _, hide ⟨ts, HAN.out, HT8.out, HG8.out, HB8.out⟩⟩
            case round =>
              obtain ⟨j, rfl, hjg, hJ⟩ := hrel
              obtain ⟨ts', hA, hT9, hG9, hB9⟩ := hJ.out
              by_cases hjl : j < gn
              · obtain ⟨ao, gc', e, hrow⟩ := RowIn.ofOwned hG9
                cases e
                obtain ⟨rb, roff, rfl, hrb, hrc⟩ := hrow.cell j hjl
                have hUx := HU.out j (by rw [hgs.out]; exact hjl)
                have hz := hA.zero (by rw [hgs.out]; exact hjl) (by omega)
                have hnone := hA.gone j (Nat.le_refl _) (by rw [hgs.out]; exact hjl)
                have HNX := hide (fun ts2 hN => hA.next (ts' := ts2) (by rw [hgs.out]; exact hjl) (by omega) hUx HND.out hN)
                obtain ⟨F9, G9, hF9, hTr⟩ := hT9
                have HH := hide (has_any F9 p ts' (gs.getD j 0) wr hF9 hA.ok hUx)
                rw [hnone] at HH
                simp only [Option.isSome_none] at HH
                have HAD := hide (two_add w1.heap.size _ p ts' p2 bs (gs.getD j 0) R 1000 wr hB9.size ⟨F9, G9, hF9, hTr⟩ hA.ok hUx hUR (by unfold I64; omega))
                rw [hz, show errV 0 = .nilIface from rfl] at HAD
                have HE9 := hide (⟨hG9, hB9⟩ : _ ∧ _)
                have hjn : (j : Int) < (gn : Int) := by omega
                generalize gs.getD j 0 = X at *
                clear hA hTr hF9 hG9 hB9 hrow hJ hz hnone hUx
                go_wp2_with (go_at_call 13; with_reducible refine Calls.mono HH.out ?_; rintro e w' ⟨rfl, hw⟩; obtain rfl : _ = w' := hw.symm)
                refine HAD.out.mono ?_
                rintro e w10 ⟨rfl, ts2, hN2, hT10, hB10, hK10⟩
                have HR10 : Hid (∃ ts', Anew ts' R gs k (j + 1) ∧ Two w1.heap.size (fun i => (Value.slice (some ⟨rb, roff, none⟩) gn gc).ownBlock = some i) p ts' p2 bs w10 ∧ w10.ownsRow w5.heap.size 26 1 (.slice (some ⟨rb, roff, none⟩) gn gc) gn (gs.map (Value.int .u64)) ∧ Below w1.heap.size w1 w10) :=
                  ⟨ts2, HNX.out ts2 hN2, hT10, owns_keep HE9.out.1 (fun g hg => hK10 g hg), HE9.out.2.trans hB10⟩
                clear hN2 hT10 hB10 hK10 HE9 HAD HH HNX
                go_wp2
                go_roundw
                case rel => exact ⟨j + 1, by go_num, by omega, HR10⟩
                case measure => simp [intOf]; omega
              · obtain rfl : j = gn := by omega
                have HEND := hide (HB1.out.trans (hB9.mono HB1.out.size))
                clear hJ hA hT9 hG9 hB9
                go_wp2
                go_ret
                exact ⟨rfl, HEND.out⟩

set_option maxRecDepth 100000 in
theorem lifted (os : Os) (started : os.Started) (H : Type) (enc : TypeId × Value → H) :
    ReturnsInHanded {} Try.checked os 3 .any (Rows.treeCutSpec.pre6 enc Try.prog Try.f3 Rows.treeCutRow.domain false) (Rows.treeCutSpec.post enc Try.prog Try.f3 false true false false) := by
  refine returnsInHanded_of_change (C := Try.checked) own started (by kernel_rfl) Try.func3
    (ChangeSpec.witness6 (enc := enc) (C := Try.checked) false ⟨#[], #[.slice none 0 0, .int .u8 0], []⟩ 8 (by kernel_rfl) (by kernel_rfl) (by kernel_rfl) (by kernel_rfl)) ?_
  intro W base args ds gs before hval0 hW hcnd _
  have hval : ∀ (j : Nat) t v, Try.f3.params[j]? = some t → args[j]? = some v → Value.okWide Try.prog W .any base t v := hval0
  have hW' := hW
  obtain ⟨p, q, hA0, hV, rfl, hfz, hnd⟩ := hW
  have hA : DataW.TrodAll enc Try.prog W 0 (fun _ => true) true Try.f3.params.toList args.toList ds p := hA0
  rw [Try.params3] at hA hval
  obtain ⟨v0, vs0, d0, ds0, p0, q0, hargs, rfl, rfl, h0, r0⟩ := trodAll_cons hA
  obtain ⟨v1, vs1, d1, ds1, p1, q1, rfl, rfl, rfl, h1, r1⟩ := trodAll_cons r0
  obtain ⟨rfl, rfl, rfl⟩ := trodAll_nil r1
  obtain rfl : args = #[v0, v1] := by cases args; simp_all
  obtain ⟨rfl, rfl⟩ := trodVars_none hV
  obtain ⟨a0, len0, cap0, rfl⟩ := okWide_slice Try.underlying22 (hval 0 22 v0 rfl rfl)
  have k0 := h0
  have lt0 : ∀ x ∈ p0, x.block < W.heap.size := by obtain ⟨m, hm⟩ := k0; exact DataW.trod_lt m _ _ _ hm
  obtain ⟨fuel0, hf0⟩ := h0
  simp only [Value.cells] at hf0
  obtain ⟨e0, w0⟩ := (Sh.read _).1 _ _ _ _ has22 hf0
  obtain ⟨a1, rfl, rfl, rfl, w1⟩ := open_int Try.underlying5 (hval 1 5 v1 rfl rfl) h1
  clear hA0 hval0
  refine (walk a0 len0 cap0 e0 a1 W w0 w1).mono fun e W' ⟨he, bel⟩ => ?_
  subst he
  exact ⟨_, rfl, _, _, _, [], _, [], hW', trodAll_mk1 (shut_bool Try.underlying4 _), (trodAll_cons_mk (Below.trod laidOut (by kernel_rfl) (of_decide_eq_true (by kernel_rfl)) k0 bel lt0) (trodAll_cons_mk (shut_int Try.underlying5 w1) trodAll_mk0)), rfl, bel.frame _, fun h => by cases h⟩

theorem over : Rows.treeCutRow.holds Try.pinned (OpenSpec.ofChange Rows.treeCutSpec) :=
  OpenClaim.holds_of_wide 3 Try.f3 rfl rfl rfl rfl rfl rfl rfl ⟨rfl, rfl, rfl, rfl, rfl⟩ rfl rfl rfl rfl rfl (by kernel_rfl) Try.func3 (by kernel_rfl)
    (of_decide_eq_true (by kernel_rfl)) (by unfold Func.isWrapper; first | (rw [if_pos (by decide +kernel)]; kernel_rfl) | (rw [if_neg (by decide +kernel)]; exact ⟨rfl, rfl⟩))
    (fun os started H enc _ => lifted os started H enc)

theorem proved : Rows.TreeCutSaid := over
end Go.Proofs.Ytfojhdbonfedbaa.treeCut

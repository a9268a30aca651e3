/-
  blocks that are laid on one another, and cut off, are what the document says, deed by deed: of 24 roots (TreeScript is true of every input); the package variable errors.errorType reads as the program's text lays it. This is the tied card.
-/
import Derived.Test.YtphahkjjmomjcaaDoorRows

import Derived.Test.YtphahkjjmomjcaaDoorTie

import Derived.Test.YtphahkjjmomjcaaDoorCards

import Derived.ChangeSame

import Derived.ChangeVars

import Derived.JoinedOf

import Derived.RowKit

import Derived.RowKitTokens

import Derived.LaidLaws

import Derived.LaidHandle

import Derived.Stop.Joined

import Derived.SevenTiedAt

import Derived.WalkKit

import Derived.Below

import Derived.ProofKit

import Derived.OpenShut

import Derived.ShutString

import Derived.ChangeOld

import Derived.Test.YtphahkjjmomjcaaDoorShapes

import Derived.Test.YtphahkjjmomjcaaDoorNdCut

import Derived.Test.YtphahkjjmomjcaaDoorNdAgree

import Derived.Test.YtphahkjjmomjcaaDoorANumb2

import Derived.Test.YtphahkjjmomjcaaDoorTActs

namespace Go.Proofs.YtphahkjjmomjcaaDoor.treeScriptCard

open Go.ChangeShapes Go.WideShapes Go.ChangeAt Go.RowKit

set_option linter.unusedVariables false

theorem et : Tryd.prog.globalNamed "errors.errorType" = some 0 := by kernel_rfl
theorem rt : (Tryd.prog.cutTypes.find? (·.1 == "internal/reflectlite.rtype")).map (·.2) = some 95 := by kernel_rfl
theorem size : Tryd.prog.types.size = 144 := by kernel_rfl
theorem oneRow : ((List.range 144).filter fun t => Tryd.prog.rowNamed t [101, 114, 114, 111, 114]) = [40] := by kernel_rfl
abbrev laid : List (String × DataW Unit) := [("errors.errorType", Rows.laid_errors_errorType)]
theorem handle_of_laid {W : World} (h : laidMetH Tryd.prog laid W) : W.cell? ⟨0, 0, none⟩ = some (.iface 95 (.agg #[.pointer (some ⟨1, 40, none⟩)])) := by
  have h' : laidMet Tryd.prog [] W ∧ handlesMet Tryd.prog laid W := h
  obtain ⟨name, u, ty, e1, e2, e3, e4, e5⟩ := h'.2 _ (List.mem_singleton.2 rfl)
  have en : name = [101, 114, 114, 111, 114] := (Option.some.inj e1).symm
  subst en
  obtain rfl := Option.some.inj (rt.symm.trans e2)
  have hm : ty ∈ (List.range 144).filter fun t => Tryd.prog.rowNamed t [101, 114, 114, 111, 114] := List.mem_filter.2 ⟨List.mem_range.2 (by rw [← size]; exact e3), e4⟩
  rw [oneRow] at hm
  obtain rfl := List.mem_singleton.1 hm
  have hh : typeHandle Tryd.prog 40 = .pointer (some ⟨1, 40, none⟩) := by kernel_rfl
  rw [hh] at e5
  simpa using World.var?_cell et e5 0
noncomputable def laidWorld (os : Os) : World :=
  let w0 := World.holding Tryd.prog os ⟨#[], #[], []⟩
  { w0 with heap := w0.heap.modify 0 fun
      | .cells _ t frozen => .cells #[.iface 95 (.agg #[.pointer (some ⟨1, 40, none⟩)])] t frozen
      | o => o }
theorem laidWorld_met (os : Os) (args : Array Value) : laidMetH Tryd.prog laid ((laidWorld os).forCall (fun _ _ => 0) ⟨#[], args, []⟩).memory :=
  laidMetH_of_parts (laidMet_nil _ _) (by kernel_rfl)
theorem own : ownKnob Tryd.prog.godebug = none := by kernel_rfl
theorem laidOut : laidOutB Tryd.prog = true := by kernel_rfl
theorem cells4 : Tryd.prog.cellsOf 4 = 1 := by kernel_rfl
theorem cells5 : Tryd.prog.cellsOf 5 = 1 := by kernel_rfl
theorem cells22 : Tryd.prog.cellsOf 22 = 1 := by kernel_rfl
theorem cells32 : Tryd.prog.cellsOf 32 = 4 := by kernel_rfl
theorem has5 : Sh.Has Tryd.prog (.int .u8) (.inl 5) := Tryd.underlying5
theorem has32 : Sh.Has Tryd.prog (.st (.pair (.int .u8) (.pair (.int .u8) (.pair (.int .u8) (.pair (.int .u8) .unit))))) (.inl 32) := Sh.has_st Tryd.underlying32 (by kernel_rfl) (Sh.has_pair rfl (by kernel_rfl) has5 (Sh.has_pair rfl (by kernel_rfl) has5 (Sh.has_pair rfl (by kernel_rfl) has5 (Sh.has_pair rfl (by kernel_rfl) has5 Sh.has_unit))))
theorem has22 : Sh.Has Tryd.prog (.slice (.st (.pair (.int .u8) (.pair (.int .u8) (.pair (.int .u8) (.pair (.int .u8) .unit)))))) (.inl 22) := Sh.has_slice Tryd.underlying22 (by kernel_rfl) (by decide) has32

set_option maxRecDepth 100000 in
set_option maxHeartbeats 16000000 in
set_option maxRecDepth 100000 in
theorem walk (a0 : Option Addr) (len0 cap0 : Nat) (e0 : Sh.Val (.slice (.st (.pair (.int .u8) (.pair (.int .u8) (.pair (.int .u8) (.pair (.int .u8) .unit))))))) (w : World) (w0 : Sh.In (.slice (.st (.pair (.int .u8) (.pair (.int .u8) (.pair (.int .u8) (.pair (.int .u8) .unit)))))) w [.slice a0 len0 cap0] e0) (hg : w.cell? ⟨0, 0, none⟩ = some (.iface 95 (.agg #[.pointer (some ⟨1, 40, none⟩)]))) :
    Calls Tryd.prog 3 #[.slice a0 len0 cap0] w fun e w' => e = .returned (.bool true) ∧ Below w.heap.size w w' := by
  have HA := hide (acts_of w0)
  have hlt0 : 0 < w.heap.size := by
    rcases Nat.eq_zero_or_pos w.heap.size with h0 | h
    · simp [World.cell?, h0] at hg
    · exact h
  have HG := hide hg
  have HL := hide hlt0
  clear hg hlt0 w0
  have hml : len0 ≤ 9223372036854775807 := by have := HA.out.1; unfold maxLen at this; omega
  obtain ⟨i0, hi0, hz0, hz1, hz2⟩ := info_parts infoNd
  have I0 := hide hi0
  have I1 := hide hz0
  have I2 := hide hz1
  have I3 := hide hz2
  clear hi0 hz0 hz1 hz2
  go_enter Tryd.func3, Tryd.ntmps3
  go_wp2_with fail
  refine (awake_any _).mono ?_
  rintro e w1 ⟨rfl, hb1⟩
  have HB1 := hide hb1
  clear hb1
  go_wp2_with fail
  refine (of_any 1 2 w1 (u_lit (by simp))).mono ?_
  rintro e w2 ⟨p, rfl, hT, hB⟩
  have HM0 := hide (MdAt.one (x := ⟨1, 1, 2⟩) hT hB)
  have HB2 := hide (hB.alloc hB.size (.cells (nC ⟨1, 1, 2⟩).toArray 28))
  clear hT hB
  go_wp2
  go_loopw [4, 29] (fun m v wr => ∃ (i l c : Nat) (a : Option Addr), v = .int .i64 (i : Int) ∧ m = .slice a l c ∧ i ≤ len0 ∧ Hid (∃ bs ms, MdAt w1.heap.size (fun _ => False) p bs (.slice a l c) ms wr ∧ Small bs ∧ MOf bs ms ∧ ms.length = l ∧ Below w1.heap.size w1 wr)) (fun _ v _ => len0 - (intOf v).toNat)
  case atStart => exact ⟨0, 1, 1, _, rfl, rfl, Nat.zero_le _, hide ⟨_, _, HM0.out, small_one, mof_one 1 1 2, rfl, HB2.out⟩⟩
  case round =>
    clear HM0 HB2
    obtain ⟨i, l, c, a, rfl, rfl, hil, hI⟩ := hrel
    obtain ⟨bs, ms, h1, h2, h3, h4, h5⟩ := hI.out
    have HM := hide h1
    have HS := hide h2
    have HO := hide h3
    have hml2 := hide h4
    have HB := hide h5
    clear hI h1 h2 h3 h4 h5
    by_cases hlt : i < len0
    · have HW := hide (HB1.out.trans (HB.out.mono HB1.out.size))
      obtain ⟨b, off, rfl, hbl, hc⟩ := (HA.out.below HW.out).2 (by omega)
      obtain ⟨x0, x1, x2, x3, b0, b1, b2, b3, h4⟩ := hc i hlt
      unfold u8B at b0 b1 b2 b3
      have LD := hide (act_load h4)
      have ST := hide (act_store wr x0 x1 x2 x3)
      have HN := hide (OAt.new wr (.cells #[.int .u8 x0, .int .u8 x1, .int .u8 x2, .int .u8 x3] 32))
      replace HM := hide (HM.out.below (below_alloc wr (.cells #[.int .u8 x0, .int .u8 x1, .int .u8 x2, .int .u8 x3] 32)))
      replace HB := hide (HB.out.alloc HB.out.size (.cells #[.int .u8 x0, .int .u8 x1, .int .u8 x2, .int .u8 x3] 32))
      have hli : (i : Int) < (len0 : Int) := by omega
      clear hc h4 HW
      go_upto_region 8 with (first
        | (refine wpList_load_at 32 (.tmp 31) rfl rfl (.pointer (some ⟨b, off + i * 4, none⟩)) rfl (.agg _) LD.out ?_)
        | (refine wpList_store_at 32 (.tmp 6) (.tmp 32) rfl rfl (.pointer (some ⟨wr.heap.size, 0, none⟩)) (.agg _) rfl rfl _ ST.out ?_))
      clear LD ST
      go_frame
      generalize wr.alloc (.cells #[.int .u8 x0, .int .u8 x1, .int .u8 x2, .int .u8 x3] 32) = wa at HN HM HB ⊢
      have q0 := HN.out.cell 0
      have q1 := HN.out.cell 1
      have q2 := HN.out.cell 2
      have q3 := HN.out.cell 3
      simp only [List.getElem?_toArray, List.getElem?_cons_zero, List.getElem?_cons_succ] at q0 q1 q2 q3
      generalize wr.heap.size = h at HN q0 q1 q2 q3 ⊢
      have m1 : x1.tmod 24 = x1 % 24 := Int.tmod_eq_emod_of_nonneg b1.1
      have m2 : x2.tmod 24 = x2 % 24 := Int.tmod_eq_emod_of_nonneg b2.1
      have m3 : x3.tmod 40 = x3 % 40 := Int.tmod_eq_emod_of_nonneg b3.1
      have u1 : IntKind.u64.wrap (x1 % 24) = x1 % 24 := by rw [IntKind.wrap_u64]; omega
      have u2 : IntKind.u64.wrap (x2 % 24) = x2 % 24 := by rw [IntKind.wrap_u64]; omega
      go_cut [7, 8, 9] from 33 to 44 (fun x y z wx => x = .int .u64 (x1 % 24) ∧ y = .int .u64 (x2 % 24) ∧ z = .int .i64 (x3 % 40) ∧ Hid (Below wa.heap.size wa wx))
      case first =>
        go_quiet (fail)
        go_wp2
        go_meet
        exact ⟨rfl, rfl, rfl, hide ⟨rfl, rfl, rfl, Nat.le_refl _, fun _ _ => rfl⟩⟩
      case rest =>
      obtain ⟨rfl, rfl, rfl, hbl⟩ := hcut
      obtain ⟨V, rfl⟩ : ∃ x, x = wc := ⟨_, rfl⟩
      have hV := hbl.out.size
      have q0' := (hbl.out.cell (p := ⟨h, 0, none⟩) HN.out.lt).trans q0
      replace HM := hide (HM.out.below hbl.out)
      replace HB := hide (HB.out.trans (hbl.out.mono HB.out.size))
      clear hbl q0 q1 q2 q3 HN m1 m2 m3 u1 u2 hV
      have hru : U64 (x1 % 24) := by unfold U64; omega
      have hqu : U64 (x2 % 24) := by unfold U64; omega
      have hsu : I64 (x3 % 40) := by unfold I64; omega
      have hr24 : Hid (0 ≤ x1 % 24 ∧ x1 % 24 < 24) := hide (by omega)
      have hs40 : Hid (0 ≤ x3 % 40 ∧ x3 % 40 < 40) := hide (by omega)
      generalize x1 % 24 = r at *
      generalize x2 % 24 = q at *
      generalize x3 % 40 = s at *
      -- BRANCH
      by_cases hop : x0 % 16 = 15
      · have ho : (x0 % 16 == 15) = true := by simpa using hop
        clear hop
        clear hqu hsu hs40
        cases hx : idx bs r with
        | none =>
          have HC : Hid (Calls Tryd.prog 6 #[.pointer (some ⟨p, 0, none⟩), .int .u64 r] V fun e w' => e = .returned (.slice none 0 0) ∧ w' = V) := hide (cut_none _ p bs r V HM.out.tree HS.out.ok hru hx)
          have HF := hide (find_any ms a l c r V HM.out.rowsIn.2 (by have h1 := HO.out.len; have h2 := HS.out.len; have h3 := hml2.out; omega))
          rw [HO.out.none hx] at HF
          clear hx
          go_wp2_with fail
          refine HC.out.mono ?_
          rintro e w' ⟨rfl, hw⟩
          obtain rfl : _ = w' := hw.symm
          go_wp2_with (go_at_call 7; refine HF.out.mono ?_; rintro e wZ ⟨rfl, hb⟩; have HM9 := hide (HM.out.below hb); have HB9 := hide (HB.out.trans (hb.mono HB.out.size)); clear hb)
          go_roundw
          case rel => exact ⟨i + 1, l, c, a, by go_num, rfl, by omega, hide ⟨bs, ms, HM9.out, HS.out, HO.out, hml2.out, HB9.out⟩⟩
          case measure => simp [intOf]; omega
        | some bb =>
          obtain ⟨hbl, hbr⟩ := idx_some hx
          have HBL := hide hbl
          have HBR := hide hbr
          have hlb : Hid (bs.length = l) := hide (by rw [← hml2.out]; exact HO.out.len.symm)
          have hl24 : l ≤ 24 := by rw [← hlb.out]; exact HS.out.len
          have HC := hide (md_cut w1.heap.size p bs (.slice a l c) ms r bb V HB.out.size HM.out HS.out.ok hru hx (by have := HS.out.len; omega))
          have hfr := hide (HO.out.some hx)
          have HIX := hide hx
          clear hx hbl hbr
          go_wp2_with fail
          refine HC.out.mono ?_
          rintro e w5 ⟨gv, ts, rfl, hgrow, hTT, hCC, hM5, hB5⟩
          obtain ⟨ga, gc, rfl, hgr⟩ := RowIn.ofOwned hgrow
          obtain ⟨gl, hgl⟩ : ∃ x, Hid ((GL bs bb bs.length).length = x) := ⟨_, rfl⟩
          rw [hgl.out] at hgr ⊢
          have HGR := hide hgr
          have HTT := hide hTT
          have HCC := hide hCC
          have HM5 := hide hM5
          have HB5 := hide (HB.out.trans hB5)
          have hg24 : gl ≤ 24 := by rw [← hgl.out]; have := GL_len bs bb bs.length; have := hlb.out; omega
          clear HC hgrow hgr hTT hCC hM5 hB5 HM HB
          have HF := hide (find_any ms a l c r w5 HM5.out.rowsIn.2 (by omega))
          rw [hfr.out] at HF
          have hb0 : ¬ ((bb : Int) < 0) := by omega
          go_wp2_with fail
          refine HF.out.mono ?_
          rintro e w6 ⟨rfl, hb⟩
          have HM6 := hide (HM5.out.below hb)
          have HB6 := hide (HB5.out.trans (hb.mono HB5.out.size))
          replace HGR := hide (HGR.out.below hb)
          clear hb HF HM5 HB5 hfr
          have hst0 : Hid (stayL bs ms bb 0 = []) := hide rfl
          go_wp2
          go_loopw [11, 12, 61] (fun y z v wx => ∃ (k L nn yc : Nat) (ya : Option Addr), v = .int .i64 (k : Int) ∧ y = .slice ya L yc ∧ z = .int .i64 (nn : Int) ∧ k ≤ l ∧ L + nn = k ∧ Hid (OwnRows nR 28 3 w6.heap.size wx (.slice ya L yc) (stayL bs ms bb k) ∧ (stayL bs ms bb k).length = L ∧ Below w6.heap.size w6 wx)) (fun _ _ v _ => l - (intOf v).toNat)
          case atStart => exact ⟨0, 0, 0, 0, none, rfl, rfl, rfl, Nat.zero_le _, rfl, hide ⟨OwnRows.none _ _ _ _ _, rfl, Below.refl _ _⟩⟩
          case round =>
            obtain ⟨k, L, nn, yc, ya, rfl, rfl, rfl, hkl, hLn, hI⟩ := hrel
            have HOW := hide hI.out.1
            have hLL := hide hI.out.2.1
            have HBx := hide hI.out.2.2
            clear hI
            by_cases hlt2 : k < l
            · have HN6 := hide (HM6.out.rowsIn.2.below HBx.out)
              obtain ⟨gn, on, rfl, hgn, hcn⟩ := HN6.out.2 (by omega)
              have h4 := hcn k hlt2
              have hkb : k < bs.length := by rw [hlb.out]; exact hlt2
              have hrk := HO.out.root k hkb
              have hbe := below_at (hx := HIX.out) HS.out.ok hkb
              rw [← hrk] at hbe
              have hfin := FL_in (bs := bs) (b := bb) (m := k)
              have hfout := FL_out (bs := bs) (b := bb) (m := k)
              obtain ⟨x, hx⟩ : ∃ x, Hid (nd ms k = x) := ⟨_, rfl⟩
              rw [hx.out] at h4 hbe
              have LD := hide (node_load h4)
              have ST := hide (node_store wr x)
              have HN1 := hide (OAt.new wr (.cells #[.int .u64 x.root, .int .u64 x.par, .int .i64 x.slot] 28))
              have hal := below_alloc wr (.cells #[.int .u64 x.root, .int .u64 x.par, .int .i64 x.slot] 28)
              replace HBx := hide (HBx.out.trans (hal.mono HBx.out.size))
              replace HOW := hide (HOW.out.below hal (fun _ _ h => h))
              replace HN6 := hide (HN6.out.below hal)
              have hki : (k : Int) < (l : Int) := by omega
              clear hcn h4 hal hrk
              go_upto_region 19 with (first
                | (refine wpList_load_at 28 (.tmp 63) rfl rfl (.pointer (some ⟨gn, on + k * 3, none⟩)) rfl (.agg _) LD.out ?_)
                | (refine wpList_store_at 28 (.tmp 14) (.tmp 64) rfl rfl (.pointer (some ⟨wr.heap.size, 0, none⟩)) (.agg _) rfl rfl _ ST.out ?_))
              clear LD ST
              go_frame
              generalize wr.alloc (.cells #[.int .u64 x.root, .int .u64 x.par, .int .i64 x.slot] 28) = wa at HN1 HBx HOW HN6 ⊢
              generalize wr.heap.size = h at HN1 ⊢
              have q0 := HN1.out.cell 0
              simp only [List.getElem?_toArray, List.getElem?_cons_zero] at q0
              have HBE := hide (mbelow_any bs ms _ l c x.root r wa HN6.out HO.out HS.out.ok)
              rw [hbe] at HBE
              go_wp2_with fail
              refine HBE.out.mono ?_
              rintro e wb ⟨rfl, hb⟩
              replace HBx := hide (HBx.out.trans (hb.mono HBx.out.size))
              replace HOW := hide (HOW.out.below hb (fun _ _ h => h))
              replace HN1 := hide (HN1.out.below hb)
              clear hb HBE q0 hbe
              have hnn : (nn : Int) ≤ 24 := by omega
              by_cases hc : climb bs bb k = bb
              · rw [decide_eq_true hc]
                have hst : Hid (stayL bs ms bb (k + 1) = stayL bs ms bb k ++ [x]) := hide (by unfold stayL; rw [hfin hc, List.map_append, ← hx.out]; rfl)
                have LD := hide (node_load (w := wb) (b := h) (o := 0) (x := x) (fun j hj => by rw [Nat.zero_add, HN1.out.cell, List.getElem?_toArray]; rfl))
                have HO7 := hide (HOW.out.below (below_alloc wb (.cells (nC x).toArray 28)) (fun _ _ h => h))
                have hR := hide (RowsIn.lit (R := nR) wb wb.heap.size (nC x) 28 3 x rfl rfl rfl)
                have hwb := HBx.out.size
                clear hfin hfout hc HOW
                go_wp2_with (first
                  | (refine wpList_load_at 28 (.tmp 14) rfl rfl (.pointer (some ⟨h, 0, none⟩)) rfl (.agg _) LD.out ?_)
                  | (at_builtin; refine wpList_append_structs (R := nR) _ rfl (.tmp 70) (.tmp 72) 30 rfl w6.heap.size 28 i0 (.agg #[.int .u64 0, .int .u64 0, .int .i64 0]) 3 24 Tryd.underlying30 I0.out I1.out I2.out I3.out rfl (by omega) nR_one (.slice ya L yc) L (stayL bs ms bb k) rfl HO7.out hLL.out (some ⟨wb.heap.size, 0, none⟩) 1 1 [x] rfl hR.out ?c1 ?c2 ?c3 ?_))
                case c1 => unfold maxLen; omega
                case c2 => omega
                case c3 => rw [World.size_alloc]; omega
                intro ao8 d8 w8 hown8 hg8
                have HB8 := hide ((HBx.out.alloc HBx.out.size (.cells (nC x).toArray 28)).grown hg8 (by rw [World.size_alloc]; omega) (fun j hj => (HO7.out.blk hj).1))
                rw [← hst.out] at hown8
                have HO8 := hide hown8
                have hl8 : Hid ((stayL bs ms bb (k + 1)).length = L + 1) := hide (by rw [hst.out, List.length_append, hLL.out]; rfl)
                clear hown8 hg8 HO7 hR LD
                go_wp2
                go_roundw
                case rel => exact ⟨k + 1, L + 1, nn, d8, ao8, by go_num, rfl, rfl, by omega, by omega, hide ⟨HO8.out, hl8.out, HB8.out⟩⟩
                case measure => simp [intOf]; omega
              · rw [decide_eq_false hc]
                have hst : Hid (stayL bs ms bb (k + 1) = stayL bs ms bb k) := hide (by unfold stayL; rw [hfout hc])
                rw [← hst.out] at HOW hLL
                clear hfin hfout hc
                go_wp2
                go_roundw
                case rel => exact ⟨k + 1, L, nn + 1, yc, ya, by go_num, rfl, by go_num, by omega, by omega, hide ⟨HOW.out, hLL.out, HBx.out⟩⟩
                case measure => simp [intOf]; omega
            · obtain rfl : k = l := by omega
              obtain ⟨w7, rfl⟩ : ∃ x, x = wr := ⟨_, rfl⟩
              have HOT : Hid (MOf ts (stayL bs ms bb k)) := hide (by have := stay_of HO.out HS.out.ok HBL.out HCC.out; rwa [hlb.out] at this)
              have HST := hide (cut_small HS.out HBL.out HTT.out HCC.out)
              have hgone : Hid (∀ j, j < gl → _) := hide fun j hj => gone_of HS.out.ok HBL.out HCC.out (k := j) (by rw [hgl.out]; exact hj)
              have hnn : Hid (nn = gl) := hide (by
                have h1 := gone_len (bs := bs) HBL.out
                have h2 := hLL.out
                unfold stayL at h2
                rw [List.length_map] at h2
                rw [hlb.out] at h1
                rw [hlb.out] at hgl
                rw [hgl.out, h2] at h1
                omega)
              obtain rfl := hnn.out
              have HM7 := hide (HM6.out.change HBx.out HB6.out.size HOW.out)
              have HN7 := hide (HM6.out.rowsIn.2.below HBx.out)
              have HB7 := hide (HB6.out.trans (HBx.out.mono HB6.out.size))
              replace HGR := hide (HGR.out.below HBx.out)
              have hL24 : L ≤ 24 := by omega
              clear HOW HM6 HB6 HBx hst0 hgl hnn HBL HBR HCC HTT
              generalize rise (GL bs bb bs.length) = zs at HGR hgone
              go_wp2
              go_loopw [79] (fun v wx => ∃ k2 : Nat, v = .int .i64 (k2 : Int) ∧ k2 ≤ nn ∧ Hid (Below w7.heap.size w7 wx)) (fun v _ => nn - (intOf v).toNat)
              case atStart => exact ⟨0, rfl, Nat.zero_le _, hide (Below.refl _ _)⟩
              case round =>
                obtain ⟨k2, rfl, hk2, HBy⟩ := hrel
                by_cases hk2l : k2 < nn
                · obtain ⟨y, hy1, hyu, hyn, ⟨jj, hyj⟩, hyr⟩ := hgone.out k2 hk2l
                  obtain ⟨gg, go', rfl, hgg, hgc⟩ := HGR.out.cell k2 hk2l
                  rw [hy1] at hgc
                  have hgc2 := (HBy.out.cell (p := ⟨gg, go' + k2, none⟩) hgg).trans hgc
                  have hk2i : (k2 : Int) < (nn : Int) := by omega
                  have HF1 := hide (find_any ms _ k c y wr (HN7.out.below HBy.out) (by omega))
                  rw [HO.out.some hyj] at HF1
                  have HF2 : Hid (∀ w', Below w7.heap.size w7 w' → _) := hide fun w' h => find_any (stayL bs ms bb k) ya L yc y w' (HM7.out.rowsIn.2.below h) (by omega)
                  rw [HOT.out.none hyn] at HF2
                  have hj0 : ¬ ((jj : Int) < 0) := by omega
                  have hj1 : (0 : Int) ≤ (jj : Int) := by omega
                  clear hyj hyn hgc hyu
                  go_wp2_with fail
                  refine HF1.out.mono ?_
                  rintro e w8 ⟨rfl, hb⟩
                  have HBz := hide (HBy.out.trans (hb.mono HBy.out.size))
                  have HF3 := hide (HF2.out w8 HBz.out)
                  clear hb HF1 HF2 hgc2
                  go_wp2_with fail
                  refine HF3.out.mono ?_
                  rintro e w9 ⟨rfl, hb⟩
                  have HB9 := hide (HBz.out.trans (hb.mono HBz.out.size))
                  clear hb HF3
                  by_cases hz : k2 = 0
                  · subst hz
                    clear hyr
                    go_wp2
                    go_roundw
                    case rel => exact ⟨1, by go_num, by omega, HB9⟩
                    case measure => simp [intOf]; omega
                  · obtain ⟨j2, hj2⟩ : ∃ j2, Hid (k2 = j2 + 1) := ⟨k2 - 1, by show k2 = k2 - 1 + 1; omega⟩
                    have hkm : (k2 : Int) - 1 = (j2 : Int) := by have := hj2.out; omega
                    have hk0 : (0 : Int) < (k2 : Int) := by omega
                    have hjl : (j2 : Int) < (nn : Int) := by omega
                    have hj20 : (0 : Int) ≤ (j2 : Int) := by omega
                    obtain ⟨gg', go2, e', _, hgc3⟩ := HGR.out.cell j2 (by have := hj2.out; omega)
                    cases e'
                    have hgc4 := (HB9.out.cell (p := ⟨gg, go' + j2, none⟩) hgg).trans hgc3
                    have hlt3 := hyr j2 (by have := hj2.out; omega)
                    generalize zs.getD j2 0 = y2 at hgc3 hgc4 hlt3
                    have hle : ¬ y ≤ y2 := by omega
                    clear hgc3 hyr hlt3 hz
                    go_wp2
                    go_roundw
                    case rel => exact ⟨k2 + 1, by go_num, by omega, HB9⟩
                    case measure => simp [intOf]; omega
                · obtain rfl : k2 = nn := by omega
                  have HM8 := hide (HM7.out.below HBy.out)
                  have HB8 := hide (HB7.out.trans (HBy.out.mono HB7.out.size))
                  clear HM7 HB7 HN7 HGR hgone
                  have HAG := hide (agrees_any _ p ts (stayL bs ms bb k) ya L yc wr HM8.out.tree HM8.out.rowsIn.2 HOT.out HST.out.ok (by have := HST.out.len; omega))
                  go_wp2_with (go_at_call 12; refine HAG.out.mono ?_; rintro e wZ ⟨rfl, hb⟩; have HM9 := hide (HM8.out.below hb); have HB9 := hide (HB8.out.trans (hb.mono HB8.out.size)); clear hb)
                  go_roundw
                  case rel => exact ⟨i + 1, L, yc, ya, by go_num, rfl, by omega, hide ⟨ts, (stayL bs ms bb k), HM9.out, HST.out, HOT.out, hLL.out, HB9.out⟩⟩
                  case measure => simp [intOf]; omega
      · have ho : (x0 % 16 == 15) = false := by simpa using hop
        clear hop
        have HAM := hide (madd_any bs ms a l c r q s V HM.out.rowsIn.2 HO.out HS.out.ok)
        have hE := hide (addM_eq (r := r) (q := q) (s := s) (show bs.length < 1024 by have := HS.out.len; omega))
        have hcs := addM_cases bs r q s
        obtain ⟨n, hn⟩ : ∃ n, Hid (addM bs r q s = n) := ⟨_, rfl⟩
        rw [hn.out] at HAM hcs hE
        go_wp2_with fail
        refine HAM.out.mono ?_
        rintro e w4 ⟨rfl, hb⟩
        replace HM := hide (HM.out.below hb)
        replace HB := hide (HB.out.trans (hb.mono HB.out.size))
        clear hb HAM q0'
        have HAD := hide (md_add w1.heap.size _ p bs (.slice a l c) ms r q s w4 HB.out.size HM.out HS.out.ok hru hqu hsu)
        go_wp2_with fail
        refine HAD.out.mono ?_
        rintro e w5 ⟨rfl, bs', hnx, hM5, hB5, _⟩
        have hS5 := hide (hnx.small HS.out hr24.out hs40.out)
        have HNX := hide hnx
        have HM5 := hide hM5
        have HB5 := hide (HB.out.trans hB5)
        rw [← hE.out]
        have HW5 := hide (HB1.out.trans (HB5.out.mono HB1.out.size))
        have HG5 := hide ((HW5.out.cell (p := ⟨0, 0, none⟩) HL.out).trans HG.out)
        clear hnx hM5 hB5 HAD HM HB
        rcases hcs with rfl | hcs
        · have HX5 := hide (HNX.out.mof HO.out HS.out.ok hE.out.symm)
          rw [show errV 0 = .nilIface from rfl]
          have HNU := hide (number_nil w5)
          clear HNX hE hn HS
          go_wp2_with fail
          refine HNU.out.mono ?_
          rintro e w6 ⟨rfl, hb⟩
          have HM6 := hide (HM5.out.below hb)
          have HB6 := hide (HB5.out.trans (hb.mono HB5.out.size))
          have HRI := hide HM6.out.rowsIn.1
          have hll := hml2.out
          have hl24 : l ≤ 100 := by have h1 := HX5.out.len; have h2 := hS5.out.len; rw [List.length_append, hll] at h1; simp at h1; omega
          replace hll := hide hll
          clear hb HNU HM5 HB5
          go_wp2_with (at_builtin; refine wpList_append_structs (R := nR) _ rfl (.const (.slice none 0 0)) (.tmp 136) 30 rfl w6.heap.size 28 i0 (.agg #[.int .u64 0, .int .u64 0, .int .i64 0]) 3 24 Tryd.underlying30 I0.out I1.out I2.out I3.out rfl (by omega) nR_one (.slice none 0 0) 0 [] rfl (OwnRows.none _ _ _ _ _) rfl a l c ms rfl HRI.out ?c1 ?c2 (Nat.le_refl _) ?_)
          case c1 => unfold maxLen; omega
          case c2 => omega
          intro ao7 d7 w7 hown7 hg7
          have HB7 := hide (show Below w6.heap.size w6 w7 from (Below.refl _ _).grown hg7 (Nat.le_refl _) (fun j hj => by cases hj))
          have HO7 := hide (hown7.below (below_alloc w7 (.cells (nC ⟨r, q, s⟩).toArray 28)) (fun _ _ h => h))
          have hR := hide (RowsIn.lit (R := nR) w7 w7.heap.size (nC ⟨r, q, s⟩) 28 3 ⟨r, q, s⟩ rfl rfl rfl)
          have h67 := HB7.out.size
          clear hown7 hg7 HRI
          go_wp2_with (at_builtin; refine wpList_append_structs (R := nR) _ rfl (.tmp 137) (.tmp 142) 30 rfl w6.heap.size 28 i0 (.agg #[.int .u64 0, .int .u64 0, .int .i64 0]) 3 24 Tryd.underlying30 I0.out I1.out I2.out I3.out rfl (by omega) nR_one (.slice ao7 l d7) l ms rfl HO7.out hll.out (some ⟨w7.heap.size, 0, none⟩) 1 1 [⟨r, q, s⟩] rfl hR.out ?c1 ?c2 ?c3 ?_)
          case c1 => unfold maxLen; omega
          case c2 => omega
          case c3 => rw [World.size_alloc]; omega
          intro ao8 d8 w8 hown8 hg8
          have HB8 := hide ((HB7.out.alloc HB7.out.size (.cells (nC ⟨r, q, s⟩).toArray 28)).grown hg8 (by rw [World.size_alloc]; omega) (fun j hj => (HO7.out.blk hj).1))
          have HM8 := hide (HM6.out.change HB8.out HB6.out.size hown8)
          have HBB := hide (HB6.out.trans (HB8.out.mono HB6.out.size))
          have hl8 : Hid ((ms ++ [(⟨r, q, s⟩ : Nod)]).length = l + 1) := hide (by rw [List.length_append, hll.out]; rfl)
          clear hown8 hg8 HO7 hR HB7 HB8 HM6 HB6 h67
          have HAG := hide (agrees_any _ p bs' (ms ++ [⟨r, q, s⟩]) ao8 (l + 1) d8 w8 HM8.out.tree HM8.out.rowsIn.2 HX5.out hS5.out.ok (by have := hS5.out.len; omega))
          go_wp2_with (go_at_call 12; refine HAG.out.mono ?_; rintro e wZ ⟨rfl, hb⟩; have HM9 := hide (HM8.out.below hb); have HB9 := hide (HBB.out.trans (hb.mono HBB.out.size)); clear hb)
          go_roundw
          case rel => exact ⟨i + 1, (l + 1), d8, ao8, by go_num, rfl, by omega, hide ⟨bs', (ms ++ [⟨r, q, s⟩]), HM9.out, hS5.out, HX5.out, hl8.out, HB9.out⟩⟩
          case measure => simp [intOf]; omega
        · have hn0 : n ≠ 0 := by omega
          obtain rfl := HNX.out.same (by rw [← hE.out]; exact hn0)
          rw [show errV n = .iface 37 (.int .i64 n) from by unfold errV; rw [if_neg hn0]]
          have HNU := hide (number_any n w5 HG5.out)
          have hn1 : (n == 0) = false := by simpa using hn0
          clear HNX hE hn HS hcs
          go_wp2_with fail
          refine HNU.out.mono ?_
          rintro e w6 ⟨rfl, hb⟩
          have HM6 := hide (HM5.out.below hb)
          have HB6 := hide (HB5.out.trans (hb.mono HB5.out.size))
          clear hb HNU HM5 HB5
          have HAG := hide (agrees_any _ p bs' ms a l c w6 HM6.out.tree HM6.out.rowsIn.2 HO.out hS5.out.ok (by have := hS5.out.len; omega))
          go_wp2_with (go_at_call 12; refine HAG.out.mono ?_; rintro e wZ ⟨rfl, hb⟩; have HM9 := hide (HM6.out.below hb); have HB9 := hide (HB6.out.trans (hb.mono HB6.out.size)); clear hb)
          go_roundw
          case rel => exact ⟨i + 1, l, c, a, by go_num, rfl, by omega, hide ⟨bs', ms, HM9.out, hS5.out, HO.out, hml2.out, HB9.out⟩⟩
          case measure => simp [intOf]; omega
    · obtain rfl : i = len0 := by omega
      have HT := hide HM.out.tree
      have HN := hide HM.out.rowsIn.2
      clear HM HA hml
      have HZ := hide (HB1.out.trans (HB.out.mono HB1.out.size))
      clear HB HB1
      obtain ⟨V, rfl⟩ : ∃ x, x = wr := ⟨_, rfl⟩
      go_wp2
      go_loopw [19] (fun v wx => ∃ X : Nat, v = .int .u64 (X : Int) ∧ X ≤ 24 ∧ Hid (Below V.heap.size V wx)) (fun v _ => 24 - (intOf v).toNat)
      case atStart => exact ⟨0, rfl, by omega, hide (Below.refl _ _)⟩
      case round =>
        obtain ⟨X, rfl, hX, HBx⟩ := hrel
        by_cases hXl : X < 24
        · have hXi : (X : Int) < 24 := by omega
          have hXu : U64 (X : Int) := by unfold U64; omega
          have hXw : IntKind.u64.wrap ((X : Int) + 1) = (X : Int) + 1 := by rw [IntKind.wrap_u64]; omega
          obtain ⟨V1, rfl⟩ : ∃ x, x = wr := ⟨_, rfl⟩
          go_wp2
          go_loopw [20] (fun v wx => ∃ Y : Nat, v = .int .u64 (Y : Int) ∧ Y ≤ 24 ∧ Hid (Below V.heap.size V wx)) (fun v _ => 24 - (intOf v).toNat)
          case atStart => exact ⟨0, rfl, by omega, HBx⟩
          case round =>
            obtain ⟨Y, rfl, hY, HBy⟩ := hrel
            by_cases hYl : Y < 24
            · have hYi : (Y : Int) < 24 := by omega
              have hYu : U64 (Y : Int) := by unfold U64; omega
              have hYw : IntKind.u64.wrap ((Y : Int) + 1) = (Y : Int) + 1 := by rw [IntKind.wrap_u64]; omega
              have H1 := hide (below_any _ p bs (X : Int) (Y : Int) wr (HT.out.below HBy.out) HS.out.ok hXu hYu)
              have H2 := hide (mbelow_any bs ms a l c (X : Int) (Y : Int) wr (HN.out.below HBy.out) HO.out HS.out.ok)
              generalize belowB bs (X : Int) (Y : Int) = BB at H1 H2
              go_wp2_with (first
                | (go_at_call 13; refine H1.out.mono ?_; rintro e w' ⟨rfl, hw⟩; obtain rfl : _ = w' := hw.symm)
                | (go_at_call 8; refine H2.out.mono ?_; rintro e w' ⟨rfl, hb⟩; have HB2 := hide (HBy.out.trans (hb.mono HBy.out.size)); clear hb))
              go_roundw
              case rel => exact ⟨Y + 1, by go_num, by omega, HB2⟩
              case measure => simp [intOf]; omega
            · have hYi : ¬ ((Y : Int) < 24) := by omega
              go_wp2
              go_loopw [21] (fun v wx => ∃ z : Int, v = .int .i64 z ∧ -1 ≤ z ∧ z ≤ 41 ∧ Hid (Below V.heap.size V wx)) (fun v _ => (41 - intOf v).toNat)
              case atStart => exact ⟨-1, rfl, by omega, by omega, HBy⟩
              case round =>
                obtain ⟨z, rfl, hz1, hz2, HBz⟩ := hrel
                by_cases hzl : z < 41
                · have H1 := hide (at_any _ p bs (X : Int) z wr (HT.out.below HBz.out) HS.out.ok hXu)
                  have H2 := hide (mat_any bs ms a l c (X : Int) z wr (HN.out.below HBz.out) HO.out HS.out.ok)
                  generalize atR bs (X : Int) z = RR0 at H1 H2
                  go_wp2_with (first
                    | (go_at_call 14; refine H1.out.mono ?_; rintro e w' ⟨rfl, hw⟩; obtain rfl : _ = w' := hw.symm)
                    | (go_at_call 15; refine H2.out.mono ?_; rintro e w' ⟨rfl, hb⟩; have HB2 := hide (HBz.out.trans (hb.mono HBz.out.size)); clear hb))
                  go_roundw
                  case rel => exact ⟨z + 1, by go_num, by omega, by omega, HB2⟩
                  case measure => simp [intOf]; omega
                · go_wp2
                  go_roundw
                  case rel => exact ⟨X + 1, by go_num, by omega, HBz⟩
                  case measure => simp [intOf]; omega
        · obtain rfl : X = 24 := by omega
          have HE := hide (HZ.out.trans (HBx.out.mono HZ.out.size))
          go_wp2
          go_ret
          exact ⟨rfl, HE.out⟩

set_option maxRecDepth 100000 in
theorem lifted (os : Os) (started : os.Started) (H : Type) (enc : TypeId × Value → H) :
    ReturnsInHanded {} Tryd.checked os 3 .any (fun w args => (Rows.treeScriptSpec.pre enc Tryd.prog Tryd.f3 [] false w args ∧ laidMetH Tryd.prog laid w) ∧ sizedMet enc Tryd.prog Tryd.f3 (OpenSpec.ofChange Rows.treeScriptSpec) false w args)
      (Rows.treeScriptSpec.post enc Tryd.prog Tryd.f3 false true false false) := by
  refine returnsInHanded_of_change_and (C := Tryd.checked) (X := fun w _ => laidMetH Tryd.prog laid w) (fun _ _ _ hh h => h.of_heap hh) own started (by kernel_rfl) Tryd.func3
    (ChangeSpec.witness_at (enc := enc) (C := Tryd.checked) (os := os) (X := fun w _ => laidMetH Tryd.prog laid w) false (laidWorld os) #[.slice none 0 0] 8 rfl (by kernel_rfl) (by kernel_rfl) (by kernel_rfl) (by kernel_rfl) (by kernel_rfl) (laidWorld_met os _)) ?_
  intro W base args ds gs before hval0 hW _ _ hL _
  have hg := handle_of_laid hL
  have hval : ∀ (j : Nat) t v, Tryd.f3.params[j]? = some t → args[j]? = some v → Value.okWide Tryd.prog W .any base t v := hval0
  have hW' := hW
  obtain ⟨p, q, hA0, hV, rfl, hfz, hnd⟩ := hW
  have hA : DataW.TrodAll enc Tryd.prog W 0 (fun _ => true) true Tryd.f3.params.toList args.toList ds p := hA0
  rw [Tryd.params3] at hA hval
  obtain ⟨v0, vs0, d0, ds0, p0, q0, hargs, rfl, rfl, h0, r0⟩ := trodAll_cons hA
  obtain ⟨rfl, rfl, rfl⟩ := trodAll_nil r0
  obtain rfl : args = #[v0] := by cases args; simp_all
  obtain ⟨rfl, rfl⟩ := trodVars_none hV
  obtain ⟨a0, len0, cap0, rfl⟩ := okWide_slice Tryd.underlying22 (hval 0 22 v0 rfl rfl)
  have k0 := h0
  have lt0 : ∀ x ∈ p0, x.block < W.heap.size := by obtain ⟨m, hm⟩ := k0; exact DataW.trod_lt m _ _ _ hm
  obtain ⟨fuel0, hf0⟩ := h0
  simp only [Value.cells] at hf0
  obtain ⟨e0, w0⟩ := (Sh.read _).1 _ _ _ _ has22 hf0
  clear hA0 hval0
  refine (walk a0 len0 cap0 e0 W w0 hg).mono fun e W' ⟨he, bel⟩ => ?_
  subst he
  exact ⟨_, rfl, _, _, _, [], _, [], hW', trodAll_mk1 (shut_bool Tryd.underlying4 _), (trodAll_cons_mk (Below.trod laidOut (by kernel_rfl) (of_decide_eq_true (by kernel_rfl)) k0 bel lt0) trodAll_mk0), rfl, bel.frame _, fun h => by cases h⟩

theorem over : Rows.TreeScriptSaid :=
  OpenClaim.holds_of_wide 3 Tryd.f3 rfl rfl rfl rfl rfl rfl rfl ⟨rfl, rfl, rfl, rfl, rfl⟩ rfl rfl rfl rfl rfl (by kernel_rfl) Tryd.func3 (by kernel_rfl)
    (of_decide_eq_true (by kernel_rfl)) (by unfold Func.isWrapper; rw [if_neg (of_decide_eq_false (by kernel_rfl))]; exact ⟨rfl, rfl⟩)
    (fun os started H enc _ => lifted os started H enc)

theorem proved : Rows.TreeScriptCardSaid :=
  Claim7.holds_tied_plain_at .later [] [.handle] true (true, "b83e4ab7154156531bb6fa0962a73f8f1056ad2219c46b8d04dad3ce7e03b156") true
    over (fun _ h => by cases h) (by kernel_rfl) (fun _ h => by cases h) treeScript_row_tie rfl ⟨rfl, rfl⟩ (by kernel_rfl) rfl
    (fun f fn hf hfn => by
      obtain rfl : f = 3 := Option.some.inj ((show Tryd.prog.funcNamed "psephos/psephoslaw09.TreeScript" = some 3 by kernel_rfl).symm.trans hf) |>.symm
      obtain rfl : fn = Tryd.f3 := (Option.some.inj (Tryd.func3.symm.trans hfn)).symm
      exact ⟨by kernel_rfl, fun j t ht => by
        rw [Tryd.params3] at ht
        have h3 : t ∈ [22] := by
          have := List.mem_of_getElem? (l := [22]) (i := j) (by simpa using ht)
          exact this
        simp only [List.mem_cons, List.not_mem_nil, or_false] at h3
        rcases h3 with rfl
        · exact (show Tryd.prog.wantsStandIn 22 = false by kernel_rfl)⟩)
    (by kernel_rfl)
end Go.Proofs.YtphahkjjmomjcaaDoor.treeScriptCard

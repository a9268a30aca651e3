/-
  whom a proof shows is who is in both of its votes, if these may be, but not both; else it shows nobody (SlashWho is true of every input); the package variable errors.errorType reads as the program's text lays it. This is the tied card.
-/
import Derived.Test.YtbmajbbgfolmiaaDoorRows

import Derived.Test.YtbmajbbgfolmiaaDoorTie

import Derived.Test.YtbmajbbgfolmiaaDoorCards

import Derived.ChangeSame

import Derived.ChangeVars

import Derived.JoinedOf

import Derived.RowKit

import Derived.RowKitTokens

import Derived.LaidLaws

import Derived.LaidHandle

import Derived.Stop.Joined

import Derived.SevenTiedAt

import Derived.WalkKit

import Derived.Below

import Derived.ProofKit

import Derived.OpenShut

import Derived.ShutString

import Derived.ChangeOld

import Derived.SizedLaws

import Derived.Test.YtbmajbbgfolmiaaDoorShapesS

import Derived.Test.YtbmajbbgfolmiaaDoorSWho

import Derived.Test.YtbmajbbgfolmiaaDoorVSet

import Derived.Test.YtbmajbbgfolmiaaDoorANumb2

import Derived.Test.YtbmajbbgfolmiaaDoorHand

import Derived.Test.YtbmajbbgfolmiaaDoorShapesS

import Derived.Test.YtbmajbbgfolmiaaDoorEvents

import Derived.Deep.CutRange

namespace Go.Proofs.YtbmajbbgfolmiaaDoor.slashWhoCard

open Go.ChangeShapes Go.WideShapes Go.ChangeAt Go.RowKit

set_option linter.unusedVariables false

theorem et : Tryd.prog.globalNamed "errors.errorType" = some 0 := by kernel_rfl
theorem rt : (Tryd.prog.cutTypes.find? (·.1 == "internal/reflectlite.rtype")).map (·.2) = some 76 := by kernel_rfl
theorem size : Tryd.prog.types.size = 137 := by kernel_rfl
theorem oneRow : ((List.range 137).filter fun t => Tryd.prog.rowNamed t [101, 114, 114, 111, 114]) = [35] := by kernel_rfl
abbrev laid : List (String × DataW Unit) := [("errors.errorType", Rows.laid_errors_errorType)]
theorem handle_of_laid {W : World} (h : laidMetH Tryd.prog laid W) : W.cell? ⟨0, 0, none⟩ = some (.iface 76 (.agg #[.pointer (some ⟨1, 35, none⟩)])) := by
  have h' : laidMet Tryd.prog [] W ∧ handlesMet Tryd.prog laid W := h
  obtain ⟨name, u, ty, e1, e2, e3, e4, e5⟩ := h'.2 _ (List.mem_singleton.2 rfl)
  have en : name = [101, 114, 114, 111, 114] := (Option.some.inj e1).symm
  subst en
  obtain rfl := Option.some.inj (rt.symm.trans e2)
  have hm : ty ∈ (List.range 137).filter fun t => Tryd.prog.rowNamed t [101, 114, 114, 111, 114] := List.mem_filter.2 ⟨List.mem_range.2 (by rw [← size]; exact e3), e4⟩
  rw [oneRow] at hm
  obtain rfl := List.mem_singleton.1 hm
  have hh : typeHandle Tryd.prog 35 = .pointer (some ⟨1, 35, none⟩) := by kernel_rfl
  rw [hh] at e5
  simpa using World.var?_cell et e5 0
noncomputable def laidWorld (os : Os) : World :=
  let w0 := World.holding Tryd.prog os ⟨#[], #[], []⟩
  { w0 with heap := w0.heap.modify 0 fun
      | .cells _ t frozen => .cells #[.iface 76 (.agg #[.pointer (some ⟨1, 35, none⟩)])] t frozen
      | o => o }
theorem laidWorld_met (os : Os) (args : Array Value) : laidMetH Tryd.prog laid ((laidWorld os).forCall (fun _ _ => 0) ⟨#[], args, []⟩).memory :=
  laidMetH_of_parts (laidMet_nil _ _) (by kernel_rfl)
theorem own : ownKnob Tryd.prog.godebug = none := by kernel_rfl
theorem laidOut : laidOutB Tryd.prog = true := by kernel_rfl
theorem cells3 : Tryd.prog.cellsOf 3 = 1 := by kernel_rfl
theorem cells4 : Tryd.prog.cellsOf 4 = 1 := by kernel_rfl
theorem cells22 : Tryd.prog.cellsOf 22 = 1 := by kernel_rfl
theorem cells24 : Tryd.prog.cellsOf 24 = 3 := by kernel_rfl
theorem cells25 : Tryd.prog.cellsOf 25 = 1 := by kernel_rfl
theorem cells27 : Tryd.prog.cellsOf 27 = 2 := by kernel_rfl
theorem cells28 : Tryd.prog.cellsOf 28 = 1 := by kernel_rfl
theorem cells30 : Tryd.prog.cellsOf 30 = 7 := by kernel_rfl
theorem has25 : Sh.Has Tryd.prog (.int .u64) (.inl 25) := Tryd.underlying25
theorem has22 : Sh.Has Tryd.prog (.slice (.int .u64)) (.inl 22) := Sh.has_slice Tryd.underlying22 (by kernel_rfl) (by decide) has25
theorem has3 : Sh.Has Tryd.prog (.int .i64) (.inl 3) := Tryd.underlying3
theorem has24 : Sh.Has Tryd.prog (.st (.pair (.slice (.int .u64)) (.pair (.int .i64) (.pair (.int .i64) .unit)))) (.inl 24) := Sh.has_st Tryd.underlying24 (by kernel_rfl) (Sh.has_pair rfl (by kernel_rfl) has22 (Sh.has_pair rfl (by kernel_rfl) has3 (Sh.has_pair rfl (by kernel_rfl) has3 Sh.has_unit)))
theorem has27 : Sh.Has Tryd.prog (.st (.pair (.int .i64) (.pair (.int .u64) .unit))) (.inl 27) := Sh.has_st Tryd.underlying27 (by kernel_rfl) (Sh.has_pair rfl (by kernel_rfl) has3 (Sh.has_pair rfl (by kernel_rfl) has25 Sh.has_unit))
theorem has28 : Sh.Has Tryd.prog (.slice (.int .i64)) (.inl 28) := Sh.has_slice Tryd.underlying28 (by kernel_rfl) (by decide) has3
theorem has30 : Sh.Has Tryd.prog (.st (.pair (.int .i64) (.pair (.int .u64) (.pair (.st (.pair (.int .i64) (.pair (.int .u64) .unit))) (.pair (.st (.pair (.int .i64) (.pair (.int .u64) .unit))) (.pair (.slice (.int .i64)) .unit)))))) (.inl 30) := Sh.has_st Tryd.underlying30 (by kernel_rfl) (Sh.has_pair rfl (by kernel_rfl) has3 (Sh.has_pair rfl (by kernel_rfl) has25 (Sh.has_pair rfl (by kernel_rfl) has27 (Sh.has_pair rfl (by kernel_rfl) has27 (Sh.has_pair rfl (by kernel_rfl) has28 Sh.has_unit)))))
abbrev configSh : Sh := .st (.pair (.slice (.int .u64)) (.pair (.int .i64) (.pair (.int .i64) .unit)))
theorem configC_of {w : World} {cs : List Value} {v : configSh.Val} (h : configSh.In w cs v) : ∃ (bs : List Int) (s b : Int) (ao : Option Addr) (l c : Nat), cs = [.slice ao l c, .int .i64 s, .int .i64 b] ∧ RowIn .u64 w ao l c bs ∧ (∀ z ∈ bs, IsU64 z) ∧ IsI64 s ∧ IsI64 b := by
  obtain ⟨x1, y1, rfl, _, ⟨ao, l, c, rfl, h1⟩, x2, y2, rfl, _, ⟨rfl, h2⟩, x3, y3, rfl, _, ⟨rfl, h3⟩, h4⟩ := h
  obtain rfl : y3 = [] := h4
  exact ⟨v.1, v.2.1, v.2.2.1, ao, l, c, rfl, RowsIn.ints h1, fun x hx => wf_u64 (RowsIn.wf h1 x hx), wf_i64 h2, wf_i64 h3⟩
theorem bytes_int : Tryd.prog.bytesOf 3 = 8 := by kernel_rfl
theorem reach_eq : reachBytes = 140737488351232 := by decide
theorem vtS {v : voteSh.Val} (h : voteSh.Sz Tryd.prog reachBytes (.inl 30) v) : (toVt v).who.length * 8 ≤ 140737488351232 := by
  obtain ⟨fs, hu, h⟩ := h
  rw [Tryd.underlying30] at hu
  cases hu
  obtain ⟨_, _, _, _, ⟨e, he, hl, _⟩, _⟩ := h
  rw [Tryd.underlying28] at he
  cases he
  rw [bytes_int, reach_eq] at hl
  exact hl

set_option maxRecDepth 100000 in
set_option maxHeartbeats 4000000 in
set_option maxRecDepth 100000 in
theorem walk (cs0 : List Value) (e0 : Sh.Val (.st (.pair (.slice (.int .u64)) (.pair (.int .i64) (.pair (.int .i64) .unit))))) (cs1 : List Value) (e1 : Sh.Val (.st (.pair (.int .i64) (.pair (.int .u64) (.pair (.st (.pair (.int .i64) (.pair (.int .u64) .unit))) (.pair (.st (.pair (.int .i64) (.pair (.int .u64) .unit))) (.pair (.slice (.int .i64)) .unit))))))) (cs2 : List Value) (e2 : Sh.Val (.st (.pair (.int .i64) (.pair (.int .u64) (.pair (.st (.pair (.int .i64) (.pair (.int .u64) .unit))) (.pair (.st (.pair (.int .i64) (.pair (.int .u64) .unit))) (.pair (.slice (.int .i64)) .unit))))))) (a3 : Bool) (w : World) (w0 : Sh.In (.st (.pair (.slice (.int .u64)) (.pair (.int .i64) (.pair (.int .i64) .unit)))) w cs0 e0) (r0S : Sh.Sz Tryd.prog reachBytes (.st (.pair (.slice (.int .u64)) (.pair (.int .i64) (.pair (.int .i64) .unit)))) (.inl 24) e0) (w1 : Sh.In (.st (.pair (.int .i64) (.pair (.int .u64) (.pair (.st (.pair (.int .i64) (.pair (.int .u64) .unit))) (.pair (.st (.pair (.int .i64) (.pair (.int .u64) .unit))) (.pair (.slice (.int .i64)) .unit)))))) w cs1 e1) (r1S : Sh.Sz Tryd.prog reachBytes (.st (.pair (.int .i64) (.pair (.int .u64) (.pair (.st (.pair (.int .i64) (.pair (.int .u64) .unit))) (.pair (.st (.pair (.int .i64) (.pair (.int .u64) .unit))) (.pair (.slice (.int .i64)) .unit)))))) (.inl 30) e1) (w2 : Sh.In (.st (.pair (.int .i64) (.pair (.int .u64) (.pair (.st (.pair (.int .i64) (.pair (.int .u64) .unit))) (.pair (.st (.pair (.int .i64) (.pair (.int .u64) .unit))) (.pair (.slice (.int .i64)) .unit)))))) w cs2 e2) (r2S : Sh.Sz Tryd.prog reachBytes (.st (.pair (.int .i64) (.pair (.int .u64) (.pair (.st (.pair (.int .i64) (.pair (.int .u64) .unit))) (.pair (.st (.pair (.int .i64) (.pair (.int .u64) .unit))) (.pair (.slice (.int .i64)) .unit)))))) (.inl 30) e2) (hg : w.cell? ⟨0, 0, none⟩ = some (.iface 76 (.agg #[.pointer (some ⟨1, 35, none⟩)]))) :
    Calls Tryd.prog 3 #[.agg cs0.toArray, .agg cs1.toArray, .agg cs2.toArray, .bool a3] w fun e w' => e = .returned (.bool true) ∧ Below w.heap.size w w' := by
  have h0 := w0
  have h1 := w1
  have h2 := w2
  have k1 := vtS r1S
  have k2 := vtS r2S
  clear w0 w1 w2 r0S r1S r2S
  obtain ⟨bs, a0_1, a0_2, a0_0, len0_0, cap0_0, rfl, hB, hu, hs, hb⟩ := configC_of h0
  obtain ⟨⟨hv0, hv1, hv2, hv3, _, hv5, _⟩, a1_6, len1_6, cap1_6, rfl, hZ⟩ := voteC_of h1
  obtain ⟨⟨hy0, hy1, hy2, hy3, _, hy5, _⟩, a2_6, len2_6, cap2_6, rfl, hQ⟩ := voteC_of h2
  clear h0 h1 h2
  generalize toVt e1 = V1 at *
  generalize toVt e2 = V2 at *
  obtain ⟨a1_0, a1_1, a1_2, a1_3, a1_4, a1_5, zs⟩ := V1
  obtain ⟨a2_0, a2_1, a2_2, a2_3, a2_4, a2_5, qs⟩ := V2
  dsimp only at *
  unfold IsI64 at hs hb hv0 hv2 hy0 hy2
  unfold IsU64 at hu hv1 hv3 hv5 hy1 hy3 hy5
  have hzl := hZ.len
  have hql := hQ.len
  have hk1 : len1_6 * 8 ≤ 140737488355328 := by omega
  have hk2 : len2_6 * 8 ≤ 140737488355328 := by omega
  clear k1 k2 hzl hql
  have hlt0 : 0 < w.heap.size := by
    rcases Nat.eq_zero_or_pos w.heap.size with h0 | h
    · simp [World.cell?, h0] at hg
    · exact h
  have HG := hide hg
  have HL := hide hlt0
  have HU := hide hu
  have HB := hide hB
  have HZ := hide hZ
  have HQ := hide hQ
  have HN := hide (Below.refl w.heap.size w)
  clear hg hlt0 hu hB hZ hQ
  replace HB := hide (HB.out.alloc (cfg a0_0 len0_0 cap0_0 a0_1 a0_2))
  replace HZ := hide (HZ.out.alloc (cfg a0_0 len0_0 cap0_0 a0_1 a0_2))
  replace HQ := hide (HQ.out.alloc (cfg a0_0 len0_0 cap0_0 a0_1 a0_2))
  replace HN := hide (HN.out.alloc HN.out.size (cfg a0_0 len0_0 cap0_0 a0_1 a0_2))
  have HC := hide (CAt.lit w w.heap.size rfl a0_0 len0_0 cap0_0 a0_1 a0_2)
  replace HB := hide (HB.out.alloc (vobj a1_0 a1_1 a1_2 a1_3 a1_4 a1_5 a1_6 len1_6 cap1_6))
  replace HZ := hide (HZ.out.alloc (vobj a1_0 a1_1 a1_2 a1_3 a1_4 a1_5 a1_6 len1_6 cap1_6))
  replace HQ := hide (HQ.out.alloc (vobj a1_0 a1_1 a1_2 a1_3 a1_4 a1_5 a1_6 len1_6 cap1_6))
  replace HC := hide (HC.out.alloc (vobj a1_0 a1_1 a1_2 a1_3 a1_4 a1_5 a1_6 len1_6 cap1_6))
  replace HN := hide (HN.out.alloc HN.out.size (vobj a1_0 a1_1 a1_2 a1_3 a1_4 a1_5 a1_6 len1_6 cap1_6))
  have HV := hide (OAt.new (w.alloc (cfg a0_0 len0_0 cap0_0 a0_1 a0_2)) (vobj a1_0 a1_1 a1_2 a1_3 a1_4 a1_5 a1_6 len1_6 cap1_6))
  rw [show (w.alloc (cfg a0_0 len0_0 cap0_0 a0_1 a0_2)).heap.size = w.heap.size + 1 by simp] at HV
  replace HB := hide (HB.out.alloc (vobj a2_0 a2_1 a2_2 a2_3 a2_4 a2_5 a2_6 len2_6 cap2_6))
  replace HZ := hide (HZ.out.alloc (vobj a2_0 a2_1 a2_2 a2_3 a2_4 a2_5 a2_6 len2_6 cap2_6))
  replace HQ := hide (HQ.out.alloc (vobj a2_0 a2_1 a2_2 a2_3 a2_4 a2_5 a2_6 len2_6 cap2_6))
  replace HC := hide (HC.out.alloc (vobj a2_0 a2_1 a2_2 a2_3 a2_4 a2_5 a2_6 len2_6 cap2_6))
  replace HV := hide (HV.out.alloc (vobj a2_0 a2_1 a2_2 a2_3 a2_4 a2_5 a2_6 len2_6 cap2_6))
  replace HN := hide (HN.out.alloc HN.out.size (vobj a2_0 a2_1 a2_2 a2_3 a2_4 a2_5 a2_6 len2_6 cap2_6))
  have HK := hide (OAt.new ((w.alloc (cfg a0_0 len0_0 cap0_0 a0_1 a0_2)).alloc (vobj a1_0 a1_1 a1_2 a1_3 a1_4 a1_5 a1_6 len1_6 cap1_6)) (vobj a2_0 a2_1 a2_2 a2_3 a2_4 a2_5 a2_6 len2_6 cap2_6))
  rw [show ((w.alloc (cfg a0_0 len0_0 cap0_0 a0_1 a0_2)).alloc (vobj a1_0 a1_1 a1_2 a1_3 a1_4 a1_5 a1_6 len1_6 cap1_6)).heap.size = w.heap.size + 1 + 1 by simp] at HK
  have hSb := mkS_b a0_1
  have hlb := mkBs_len bs
  obtain ⟨S, hS⟩ : ∃ x, Hid (mkS a0_1 = x) := ⟨_, rfl⟩
  obtain ⟨B, hB⟩ : ∃ x, Hid (mkB a0_2 = x) := ⟨_, rfl⟩
  obtain ⟨n, hn⟩ : ∃ x, Hid ((mkBs bs).length = x) := ⟨_, rfl⟩
  rw [hS.out] at hSb
  rw [hn.out] at hlb
  have hTbx := epo_made a1_0 S hSb
  have hwbx := mvW_len n zs hlb.1
  obtain ⟨Tx, hTx⟩ : ∃ x, Hid (epo (a1_0 % 200) S = x) := ⟨_, rfl⟩
  obtain ⟨sx, hs0x⟩ : ∃ x, Hid (a1_0 % 200 = x) := ⟨_, rfl⟩
  obtain ⟨Ex, hEx⟩ : ∃ x, Hid (a1_2 % (Tx + 1) = x) := ⟨_, rfl⟩
  obtain ⟨h8x, hh8x⟩ : ∃ x, Hid (a1_1 % 8 = x) := ⟨_, rfl⟩
  obtain ⟨r8x, hr8x⟩ : ∃ x, Hid (a1_3 % 8 = x) := ⟨_, rfl⟩
  obtain ⟨t8x, ht8x⟩ : ∃ x, Hid (a1_5 % 8 = x) := ⟨_, rfl⟩
  obtain ⟨mx, hm0x⟩ : ∃ x, Hid ((mvW n zs).length = x) := ⟨_, rfl⟩
  rw [hTx.out] at hTbx
  rw [hm0x.out] at hwbx
  have hsbx : 0 ≤ sx ∧ sx < 200 := by rw [← hs0x.out]; omega
  have hTby := epo_made a2_0 S hSb
  have hwby := mvW_len n qs hlb.1
  obtain ⟨Ty, hTy⟩ : ∃ x, Hid (epo (a2_0 % 200) S = x) := ⟨_, rfl⟩
  obtain ⟨sy, hs0y⟩ : ∃ x, Hid (a2_0 % 200 = x) := ⟨_, rfl⟩
  obtain ⟨Ey, hEy⟩ : ∃ x, Hid (a2_2 % (Ty + 1) = x) := ⟨_, rfl⟩
  obtain ⟨h8y, hh8y⟩ : ∃ x, Hid (a2_1 % 8 = x) := ⟨_, rfl⟩
  obtain ⟨r8y, hr8y⟩ : ∃ x, Hid (a2_3 % 8 = x) := ⟨_, rfl⟩
  obtain ⟨t8y, ht8y⟩ : ∃ x, Hid (a2_5 % 8 = x) := ⟨_, rfl⟩
  obtain ⟨my, hm0y⟩ : ∃ x, Hid ((mvW n qs).length = x) := ⟨_, rfl⟩
  rw [hTy.out] at hTby
  rw [hm0y.out] at hwby
  have hsby : 0 ≤ sy ∧ sy < 200 := by rw [← hs0y.out]; omega
  go_enter Tryd.func3, Tryd.ntmps3
  go_wp2_with fail
  refine (awake_any _).mono ?_
  rintro e w1 ⟨rfl, hbel⟩
  replace HB := hide (HB.out.below hbel)
  replace HZ := hide (HZ.out.below hbel)
  replace HQ := hide (HQ.out.below hbel)
  replace HC := hide (HC.out.below hbel)
  replace HV := hide (HV.out.below hbel)
  replace HK := hide (HK.out.below hbel)
  replace HN := hide (HN.out.trans (hbel.mono HN.out.size))
  clear hbel
  obtain ⟨pL, p0, p1, p2⟩ := HC.out
  go_wp2_with fail
  refine (make_any bs _ _ _ _ _ _ HB.out HU.out hs hb).mono ?_
  rintro e w2 ⟨ao, d, rfl, hR, hbel⟩
  clear pL p0 p1 p2
  clear hR HC
  rw [hS.out, hB.out, hn.out]
  replace HZ := hide (HZ.out.below hbel)
  replace HQ := hide (HQ.out.below hbel)
  replace HV := hide (HV.out.below hbel)
  replace HK := hide (HK.out.below hbel)
  replace HN := hide (HN.out.trans (hbel.mono HN.out.size))
  clear hbel
  clear HB
  have hWK := HK.out.lt
  replace HZ := hide (HZ.out.alloc (cfg ao n d S B))
  replace HQ := hide (HQ.out.alloc (cfg ao n d S B))
  replace HV := hide (HV.out.alloc (cfg ao n d S B))
  replace HK := hide (HK.out.alloc (cfg ao n d S B))
  replace HN := hide (HN.out.alloc HN.out.size (cfg ao n d S B))
  have HC := hide (CAt.lit w2 w2.heap.size rfl ao n d S B)
  obtain ⟨u0, hu0⟩ : ∃ x, Hid (w2.alloc (cfg ao n d S B) = x) := ⟨_, rfl⟩
  have hWle := (show w.heap.size + 1 + 1 < w2.heap.size from hWK)
  go_upto_if 18 with fail
  rw [hu0.out] at HZ HQ HV HK HC HN ⊢
  clear hu0
  go_cut [] from 14 to 88 (fun wx => ∃ p1 p2 p3 p4 p5 p6 pa pl pc q1 q2 q3 q4 q5 q6 qa ql qc xs ys, Hid (VAt wx (w.heap.size + 1) p1 p2 p3 p4 p5 p6 pa pl pc ∧ VAt wx (w.heap.size + 1 + 1) q1 q2 q3 q4 q5 q6 qa ql qc ∧ RowIn .i64 wx pa pl pc xs ∧ RowIn .i64 wx qa ql qc ys ∧ CAt wx w2.heap.size ao n d S B ∧ Below w.heap.size w wx ∧ (-9223372036854775808 ≤ p1 ∧ p1 ≤ 9223372036854775807) ∧ (-9223372036854775808 ≤ q1 ∧ q1 ≤ 9223372036854775807) ∧ pl * 8 ≤ 140737488355328 ∧ ql * 8 ≤ 140737488355328))
  case first =>
    cases a3
    · go_wp2
      go_meet
      exact ⟨_, _, _, _, _, _, _, _, _, _, _, _, _, _, _, _, _, _, zs, qs, hide ⟨HV.out.vat, HK.out.vat, HZ.out, HQ.out, HC.out, HN.out, hv0, hy0, hk1, hk2⟩⟩
    · go_upto_region 5 with fail
      have hC3 : Hid (∀ w', CAt w' w2.heap.size ao n d S B → w'.cell? ⟨w2.heap.size, 0, none⟩ = some (.slice ao n d) ∧ w'.cell? ⟨w2.heap.size, 1, none⟩ = some (.int .i64 S) ∧ w'.cell? ⟨w2.heap.size, 2, none⟩ = some (.int .i64 B)) := fun w' h => ⟨h.c0, h.c1, h.c2⟩
      refine wp_region_noPanic ?_
      refine wp_region_held_drew (S := fun w' => w'.cell? ⟨w2.heap.size, 0, none⟩ = some (.slice ao n d) ∧ w'.cell? ⟨w2.heap.size, 1, none⟩ = some (.int .i64 S) ∧ w'.cell? ⟨w2.heap.size, 2, none⟩ = some (.int .i64 B)) (by kernel_rfl) (hC3.out _ HC.out.drew) (fun hHeld => ?_)
      refine take_set (i := 0) (v := .agg #[.slice ao n d, .int .i64 S, .int .i64 B]) rfl rfl (by kernel_rfl) (by kernel_rfl) (by kernel_rfl) (fun _ _ _ h => h) (Or.inl ⟨by kernel_rfl, fun w' hSw => ?_⟩) hHeld ?_
      · go_simp
      simp only [List.set_cons_succ, List.set_cons_zero]
      refine take_set (i := 3) (v := .agg #[.slice ao n d, .int .i64 S, .int .i64 B]) rfl rfl (by kernel_rfl) (by kernel_rfl) (by kernel_rfl) (fun _ _ _ h => h) (Or.inl ⟨by kernel_rfl, fun w' hSw => ?_⟩) hHeld ?_
      · go_simp
      simp only [List.set_cons_succ, List.set_cons_zero]
      have HVd := hide HV.out.drew
      have HKd := hide HK.out.drew
      have HZd := hide HZ.out.drew
      have HQd := hide HQ.out.drew
      have HCd := hide HC.out.drew
      have HNd := hide HN.out.drew
      have l1 := hide hWle
      clear HV HK HZ HQ HC HN
      generalize u0.drew = v at HVd HKd HZd HQd HCd HNd hHeld ⊢
      refine wpAnyH_ready (rs := [1, 4]) (by kernel_rfl) (by simp) ?_
      refine AllReadyH.cons (o := _) rfl (fun K hK => ?_) (AllReadyH.cons (o := _) rfl (fun K hK => ?_) AllReadyH.nil)
      · skip
        obtain ⟨pL, p0, p1, p2, p3, p4, p5, p6⟩ := HVd.out.vat
        go_simp
        clear pL p0 p1 p2 p3 p4 p5 p6
        refine hK.out _ _ (hC3.out _ HCd.out) (fun hHeld => ?_)
        clear hK K
        refine wpAnyH_ready (rs := [2, 4]) (by kernel_rfl) (by simp) ?_
        refine AllReadyH.cons (o := _) rfl (fun K hK => ?_) (AllReadyH.cons (o := _) rfl (fun K hK => ?_) AllReadyH.nil)
        · skip
          go_simp
          refine (make5_new zs _ _ _ _ _ _ _ _ _ _ _ _ _ _ _ HZd.out hlb hSb hv0 hv1 hv2 hv3 hv5).mono ?_
          rintro e v ⟨aox, dx, rfl, hR, hbel, hfr⟩
          rw [hTx.out, hs0x.out, hEx.out, hh8x.out, hr8x.out, ht8x.out, hm0x.out]
          rw [hm0x.out] at hR
          have HX := hide hR
          have nX : Hid (∀ b off, aox = some ⟨b, off, none⟩ → w.heap.size + 1 + 1 < b) := hide (fun b off e => by have := hfr b off e; have := HKd.out.lt; omega)
          replace HVd := hide (HVd.out.below hbel)
          replace HKd := hide (HKd.out.below hbel)
          replace HZd := hide (HZd.out.below hbel)
          replace HQd := hide (HQd.out.below hbel)
          replace HCd := hide (HCd.out.below hbel)
          replace HNd := hide (HNd.out.trans (hbel.mono HNd.out.size))
          clear hbel hR hfr
          refine hK.out _ _ (hC3.out _ HCd.out) (fun hHeld => ?_)
          clear hK K
          refine wpAnyH_ready (rs := [4]) (by kernel_rfl) (by simp) ?_
          refine AllReadyH.cons (o := _) rfl (fun K hK => ?_) AllReadyH.nil
          · skip
            obtain ⟨pL, p0, p1, p2, p3, p4, p5, p6⟩ := HKd.out.vat
            go_simp
            clear pL p0 p1 p2 p3 p4 p5 p6
            refine hK.out _ _ (hC3.out _ HCd.out) (fun hHeld => ?_)
            clear hK K
            refine wpAnyH_ready (rs := [5]) (by kernel_rfl) (by simp) ?_
            refine AllReadyH.cons (o := _) rfl (fun K hK => ?_) AllReadyH.nil
            · skip
              go_simp
              refine (make5_new qs _ _ _ _ _ _ _ _ _ _ _ _ _ _ _ HQd.out hlb hSb hy0 hy1 hy2 hy3 hy5).mono ?_
              rintro e v ⟨aoy, dy, rfl, hR, hbel, hfr⟩
              rw [hTy.out, hs0y.out, hEy.out, hh8y.out, hr8y.out, ht8y.out, hm0y.out]
              rw [hm0y.out] at hR
              have HY := hide hR
              have nY : Hid (∀ b off, aoy = some ⟨b, off, none⟩ → w.heap.size + 1 + 1 < b) := hide (fun b off e => by have := hfr b off e; have := HKd.out.lt; omega)
              replace HVd := hide (HVd.out.below hbel)
              replace HKd := hide (HKd.out.below hbel)
              replace HZd := hide (HZd.out.below hbel)
              replace HQd := hide (HQd.out.below hbel)
              replace HCd := hide (HCd.out.below hbel)
              replace HX := hide (HX.out.below hbel)
              replace HNd := hide (HNd.out.trans (hbel.mono HNd.out.size))
              clear hbel hR hfr
              refine hK.out _ _ (hC3.out _ HCd.out) (fun hHeld => ?_)
              clear hK K
              obtain ⟨v8, hr8_, OX8, ha8⟩ := store_vote rfl HVd.out sx h8x Ex r8x Tx t8x aox mx dx
              obtain ⟨v9, hr9_, OY9, ha9⟩ := store_vote rfl (HKd.out.apart ha8 (by omega)) sy h8y Ey r8y Ty t8y aoy my dy
              have hb8 := HNd.out.trans (ha8.old w.heap.size HNd.out.size (by omega))
              have hb9 := hb8.trans (ha9.old w.heap.size hb8.size (by omega))
              have hCl := HCd.out.lt
              have HC8 := hide (HCd.out.apart ha8 (by have := l1.out; omega))
              have HC9 := hide (HC8.out.apart ha9 (by have := l1.out; omega))
              have HFIN : Hid (VAt v9 (w.heap.size + 1) sx h8x Ex r8x Tx t8x aox mx dx ∧ VAt v9 (w.heap.size + 1 + 1) sy h8y Ey r8y Ty t8y aoy my dy ∧ RowIn .i64 v9 aox mx dx (mvW n zs) ∧ RowIn .i64 v9 aoy my dy (mvW n qs) ∧ CAt v9 w2.heap.size ao n d S B ∧ Below w.heap.size w v9 ∧ (-9223372036854775808 ≤ sx ∧ sx ≤ 9223372036854775807) ∧ (-9223372036854775808 ≤ sy ∧ sy ≤ 9223372036854775807) ∧ mx * 8 ≤ 140737488355328 ∧ my * 8 ≤ 140737488355328) :=
                hide ⟨(OX8.apart ha9 (by omega)).vat, OY9.vat, (HX.out.aside ha8 (fun b off e => by have := nX.out b off e; omega)).aside ha9 (fun b off e => by have := nX.out b off e; omega), (HY.out.aside ha8 (fun b off e => by have := nY.out b off e; omega)).aside ha9 (fun b off e => by have := nY.out b off e; omega), HC9.out, hb9, by omega, by omega, by omega, by omega⟩
              clear hb8 hb9 OX8 OY9 ha8 ha9 hCl
              refine wpAnyH_ready (rs := [6]) (by kernel_rfl) (by simp) ?_
              refine AllReadyH.cons (o := _) rfl (fun K hK => ?_) AllReadyH.nil
              refine step_store_at 30 (.tmp 5) (.tmp 21) rfl rfl _ _ rfl rfl v8 hr8_ ?_
              refine hK.out _ _ (hC3.out _ HC8.out) (fun hHeld => ?_)
              clear hK K
              refine wpAnyH_ready (rs := [7]) (by kernel_rfl) (by simp) ?_
              refine AllReadyH.cons (o := _) rfl (fun K hK => ?_) AllReadyH.nil
              refine step_store_at 30 (.tmp 6) (.tmp 24) rfl rfl _ _ rfl rfl v9 hr9_ ?_
              refine hK.out _ _ (hC3.out _ HC9.out) (fun hHeld => ?_)
              clear hK K
              refine wpAnyH_done (by kernel_rfl) ?_ _
              refine NoPanic.normal ?_
              go_wp2
              go_meet
              exact ⟨_, _, _, _, _, _, _, _, _, _, _, _, _, _, _, _, _, _, _, _, HFIN⟩
        · skip
          obtain ⟨pL, p0, p1, p2, p3, p4, p5, p6⟩ := HKd.out.vat
          go_simp
          clear pL p0 p1 p2 p3 p4 p5 p6
          refine hK.out _ _ (hC3.out _ HCd.out) (fun hHeld => ?_)
          clear hK K
          refine wpAnyH_ready (rs := [2]) (by kernel_rfl) (by simp) ?_
          refine AllReadyH.cons (o := _) rfl (fun K hK => ?_) AllReadyH.nil
          · skip
            go_simp
            refine (make5_new zs _ _ _ _ _ _ _ _ _ _ _ _ _ _ _ HZd.out hlb hSb hv0 hv1 hv2 hv3 hv5).mono ?_
            rintro e v ⟨aox, dx, rfl, hR, hbel, hfr⟩
            rw [hTx.out, hs0x.out, hEx.out, hh8x.out, hr8x.out, ht8x.out, hm0x.out]
            rw [hm0x.out] at hR
            have HX := hide hR
            have nX : Hid (∀ b off, aox = some ⟨b, off, none⟩ → w.heap.size + 1 + 1 < b) := hide (fun b off e => by have := hfr b off e; have := HKd.out.lt; omega)
            replace HVd := hide (HVd.out.below hbel)
            replace HKd := hide (HKd.out.below hbel)
            replace HZd := hide (HZd.out.below hbel)
            replace HQd := hide (HQd.out.below hbel)
            replace HCd := hide (HCd.out.below hbel)
            replace HNd := hide (HNd.out.trans (hbel.mono HNd.out.size))
            clear hbel hR hfr
            refine hK.out _ _ (hC3.out _ HCd.out) (fun hHeld => ?_)
            clear hK K
            refine wpAnyH_ready (rs := [5]) (by kernel_rfl) (by simp) ?_
            refine AllReadyH.cons (o := _) rfl (fun K hK => ?_) AllReadyH.nil
            · skip
              go_simp
              refine (make5_new qs _ _ _ _ _ _ _ _ _ _ _ _ _ _ _ HQd.out hlb hSb hy0 hy1 hy2 hy3 hy5).mono ?_
              rintro e v ⟨aoy, dy, rfl, hR, hbel, hfr⟩
              rw [hTy.out, hs0y.out, hEy.out, hh8y.out, hr8y.out, ht8y.out, hm0y.out]
              rw [hm0y.out] at hR
              have HY := hide hR
              have nY : Hid (∀ b off, aoy = some ⟨b, off, none⟩ → w.heap.size + 1 + 1 < b) := hide (fun b off e => by have := hfr b off e; have := HKd.out.lt; omega)
              replace HVd := hide (HVd.out.below hbel)
              replace HKd := hide (HKd.out.below hbel)
              replace HZd := hide (HZd.out.below hbel)
              replace HQd := hide (HQd.out.below hbel)
              replace HCd := hide (HCd.out.below hbel)
              replace HX := hide (HX.out.below hbel)
              replace HNd := hide (HNd.out.trans (hbel.mono HNd.out.size))
              clear hbel hR hfr
              refine hK.out _ _ (hC3.out _ HCd.out) (fun hHeld => ?_)
              clear hK K
              obtain ⟨v8, hr8_, OX8, ha8⟩ := store_vote rfl HVd.out sx h8x Ex r8x Tx t8x aox mx dx
              obtain ⟨v9, hr9_, OY9, ha9⟩ := store_vote rfl (HKd.out.apart ha8 (by omega)) sy h8y Ey r8y Ty t8y aoy my dy
              have hb8 := HNd.out.trans (ha8.old w.heap.size HNd.out.size (by omega))
              have hb9 := hb8.trans (ha9.old w.heap.size hb8.size (by omega))
              have hCl := HCd.out.lt
              have HC8 := hide (HCd.out.apart ha8 (by have := l1.out; omega))
              have HC9 := hide (HC8.out.apart ha9 (by have := l1.out; omega))
              have HFIN : Hid (VAt v9 (w.heap.size + 1) sx h8x Ex r8x Tx t8x aox mx dx ∧ VAt v9 (w.heap.size + 1 + 1) sy h8y Ey r8y Ty t8y aoy my dy ∧ RowIn .i64 v9 aox mx dx (mvW n zs) ∧ RowIn .i64 v9 aoy my dy (mvW n qs) ∧ CAt v9 w2.heap.size ao n d S B ∧ Below w.heap.size w v9 ∧ (-9223372036854775808 ≤ sx ∧ sx ≤ 9223372036854775807) ∧ (-9223372036854775808 ≤ sy ∧ sy ≤ 9223372036854775807) ∧ mx * 8 ≤ 140737488355328 ∧ my * 8 ≤ 140737488355328) :=
                hide ⟨(OX8.apart ha9 (by omega)).vat, OY9.vat, (HX.out.aside ha8 (fun b off e => by have := nX.out b off e; omega)).aside ha9 (fun b off e => by have := nX.out b off e; omega), (HY.out.aside ha8 (fun b off e => by have := nY.out b off e; omega)).aside ha9 (fun b off e => by have := nY.out b off e; omega), HC9.out, hb9, by omega, by omega, by omega, by omega⟩
              clear hb8 hb9 OX8 OY9 ha8 ha9 hCl
              refine wpAnyH_ready (rs := [6]) (by kernel_rfl) (by simp) ?_
              refine AllReadyH.cons (o := _) rfl (fun K hK => ?_) AllReadyH.nil
              refine step_store_at 30 (.tmp 5) (.tmp 21) rfl rfl _ _ rfl rfl v8 hr8_ ?_
              refine hK.out _ _ (hC3.out _ HC8.out) (fun hHeld => ?_)
              clear hK K
              refine wpAnyH_ready (rs := [7]) (by kernel_rfl) (by simp) ?_
              refine AllReadyH.cons (o := _) rfl (fun K hK => ?_) AllReadyH.nil
              refine step_store_at 30 (.tmp 6) (.tmp 24) rfl rfl _ _ rfl rfl v9 hr9_ ?_
              refine hK.out _ _ (hC3.out _ HC9.out) (fun hHeld => ?_)
              clear hK K
              refine wpAnyH_done (by kernel_rfl) ?_ _
              refine NoPanic.normal ?_
              go_wp2
              go_meet
              exact ⟨_, _, _, _, _, _, _, _, _, _, _, _, _, _, _, _, _, _, _, _, HFIN⟩
      · skip
        obtain ⟨pL, p0, p1, p2, p3, p4, p5, p6⟩ := HKd.out.vat
        go_simp
        clear pL p0 p1 p2 p3 p4 p5 p6
        refine hK.out _ _ (hC3.out _ HCd.out) (fun hHeld => ?_)
        clear hK K
        refine wpAnyH_ready (rs := [1]) (by kernel_rfl) (by simp) ?_
        refine AllReadyH.cons (o := _) rfl (fun K hK => ?_) AllReadyH.nil
        · skip
          obtain ⟨pL, p0, p1, p2, p3, p4, p5, p6⟩ := HVd.out.vat
          go_simp
          clear pL p0 p1 p2 p3 p4 p5 p6
          refine hK.out _ _ (hC3.out _ HCd.out) (fun hHeld => ?_)
          clear hK K
          refine wpAnyH_ready (rs := [2]) (by kernel_rfl) (by simp) ?_
          refine AllReadyH.cons (o := _) rfl (fun K hK => ?_) AllReadyH.nil
          · skip
            go_simp
            refine (make5_new zs _ _ _ _ _ _ _ _ _ _ _ _ _ _ _ HZd.out hlb hSb hv0 hv1 hv2 hv3 hv5).mono ?_
            rintro e v ⟨aox, dx, rfl, hR, hbel, hfr⟩
            rw [hTx.out, hs0x.out, hEx.out, hh8x.out, hr8x.out, ht8x.out, hm0x.out]
            rw [hm0x.out] at hR
            have HX := hide hR
            have nX : Hid (∀ b off, aox = some ⟨b, off, none⟩ → w.heap.size + 1 + 1 < b) := hide (fun b off e => by have := hfr b off e; have := HKd.out.lt; omega)
            replace HVd := hide (HVd.out.below hbel)
            replace HKd := hide (HKd.out.below hbel)
            replace HZd := hide (HZd.out.below hbel)
            replace HQd := hide (HQd.out.below hbel)
            replace HCd := hide (HCd.out.below hbel)
            replace HNd := hide (HNd.out.trans (hbel.mono HNd.out.size))
            clear hbel hR hfr
            refine hK.out _ _ (hC3.out _ HCd.out) (fun hHeld => ?_)
            clear hK K
            refine wpAnyH_ready (rs := [5]) (by kernel_rfl) (by simp) ?_
            refine AllReadyH.cons (o := _) rfl (fun K hK => ?_) AllReadyH.nil
            · skip
              go_simp
              refine (make5_new qs _ _ _ _ _ _ _ _ _ _ _ _ _ _ _ HQd.out hlb hSb hy0 hy1 hy2 hy3 hy5).mono ?_
              rintro e v ⟨aoy, dy, rfl, hR, hbel, hfr⟩
              rw [hTy.out, hs0y.out, hEy.out, hh8y.out, hr8y.out, ht8y.out, hm0y.out]
              rw [hm0y.out] at hR
              have HY := hide hR
              have nY : Hid (∀ b off, aoy = some ⟨b, off, none⟩ → w.heap.size + 1 + 1 < b) := hide (fun b off e => by have := hfr b off e; have := HKd.out.lt; omega)
              replace HVd := hide (HVd.out.below hbel)
              replace HKd := hide (HKd.out.below hbel)
              replace HZd := hide (HZd.out.below hbel)
              replace HQd := hide (HQd.out.below hbel)
              replace HCd := hide (HCd.out.below hbel)
              replace HX := hide (HX.out.below hbel)
              replace HNd := hide (HNd.out.trans (hbel.mono HNd.out.size))
              clear hbel hR hfr
              refine hK.out _ _ (hC3.out _ HCd.out) (fun hHeld => ?_)
              clear hK K
              obtain ⟨v8, hr8_, OX8, ha8⟩ := store_vote rfl HVd.out sx h8x Ex r8x Tx t8x aox mx dx
              obtain ⟨v9, hr9_, OY9, ha9⟩ := store_vote rfl (HKd.out.apart ha8 (by omega)) sy h8y Ey r8y Ty t8y aoy my dy
              have hb8 := HNd.out.trans (ha8.old w.heap.size HNd.out.size (by omega))
              have hb9 := hb8.trans (ha9.old w.heap.size hb8.size (by omega))
              have hCl := HCd.out.lt
              have HC8 := hide (HCd.out.apart ha8 (by have := l1.out; omega))
              have HC9 := hide (HC8.out.apart ha9 (by have := l1.out; omega))
              have HFIN : Hid (VAt v9 (w.heap.size + 1) sx h8x Ex r8x Tx t8x aox mx dx ∧ VAt v9 (w.heap.size + 1 + 1) sy h8y Ey r8y Ty t8y aoy my dy ∧ RowIn .i64 v9 aox mx dx (mvW n zs) ∧ RowIn .i64 v9 aoy my dy (mvW n qs) ∧ CAt v9 w2.heap.size ao n d S B ∧ Below w.heap.size w v9 ∧ (-9223372036854775808 ≤ sx ∧ sx ≤ 9223372036854775807) ∧ (-9223372036854775808 ≤ sy ∧ sy ≤ 9223372036854775807) ∧ mx * 8 ≤ 140737488355328 ∧ my * 8 ≤ 140737488355328) :=
                hide ⟨(OX8.apart ha9 (by omega)).vat, OY9.vat, (HX.out.aside ha8 (fun b off e => by have := nX.out b off e; omega)).aside ha9 (fun b off e => by have := nX.out b off e; omega), (HY.out.aside ha8 (fun b off e => by have := nY.out b off e; omega)).aside ha9 (fun b off e => by have := nY.out b off e; omega), HC9.out, hb9, by omega, by omega, by omega, by omega⟩
              clear hb8 hb9 OX8 OY9 ha8 ha9 hCl
              refine wpAnyH_ready (rs := [6]) (by kernel_rfl) (by simp) ?_
              refine AllReadyH.cons (o := _) rfl (fun K hK => ?_) AllReadyH.nil
              refine step_store_at 30 (.tmp 5) (.tmp 21) rfl rfl _ _ rfl rfl v8 hr8_ ?_
              refine hK.out _ _ (hC3.out _ HC8.out) (fun hHeld => ?_)
              clear hK K
              refine wpAnyH_ready (rs := [7]) (by kernel_rfl) (by simp) ?_
              refine AllReadyH.cons (o := _) rfl (fun K hK => ?_) AllReadyH.nil
              refine step_store_at 30 (.tmp 6) (.tmp 24) rfl rfl _ _ rfl rfl v9 hr9_ ?_
              refine hK.out _ _ (hC3.out _ HC9.out) (fun hHeld => ?_)
              clear hK K
              refine wpAnyH_done (by kernel_rfl) ?_ _
              refine NoPanic.normal ?_
              go_wp2
              go_meet
              exact ⟨_, _, _, _, _, _, _, _, _, _, _, _, _, _, _, _, _, _, _, _, HFIN⟩
  case rest =>
    obtain ⟨p1, p2, p3, p4, p5, p6, pa, pl, pc, q1, q2, q3, q4, q5, q6, qa, ql, qc, xs, ys, hF⟩ := hcut
    clear HV HK HZ HQ HC HN
    obtain ⟨hva, hvb, hra, hrb, hca, hnn, hpb, hqb, hpl, hql⟩ := hF.out
    have HVX := hide hva
    have HVY := hide hvb
    have HX := hide hra
    have HY := hide hrb
    have HC := hide hca
    have HN := hide hnn
    clear hva hvb hra hrb hca hnn hF
    obtain ⟨r1, hr1⟩ : ∃ b, Hid ((whoB xs n && timesB p1 p3 p5 S) = b) := ⟨_, rfl⟩
    obtain ⟨r2, hr2⟩ : ∃ b, Hid ((whoB ys n && timesB q1 q3 q5 S) = b) := ⟨_, rfl⟩
    obtain ⟨r3, hr3⟩ : ∃ b, Hid (badB p1 p2 p3 p4 p5 p6 q1 q2 q3 q4 q5 q6 = b) := ⟨_, rfl⟩
    obtain ⟨sh, hsh⟩ : ∃ b, Hid (shows n S p1 p2 p3 p4 p5 p6 xs q1 q2 q3 q4 q5 q6 ys = b) := ⟨_, rfl⟩
    have hsv : Hid (sh = (r1 && r2 && r3 && decide (0 < (bth xs ys).length))) := hide (by rw [← hsh.out, shows, hr1.out, hr2.out, hr3.out])
    obtain ⟨m, hm⟩ : ∃ m, Hid ((bth xs ys).length = m) := ⟨_, rfl⟩
    rw [hm.out] at hsv
    obtain ⟨W, hW⟩ : ∃ x, Hid (shown sh (bth xs ys) = x) := ⟨_, rfl⟩
    obtain ⟨k0, hk0⟩ : ∃ x, Hid (W.length = x) := ⟨_, rfl⟩
    obtain ⟨ccL, cc0, cc1, cc2⟩ := HC.out
    obtain ⟨cxL, cx0, cx1, cx2, cx3, cx4, cx5, cx6⟩ := HVX.out
    obtain ⟨cyL, cy0, cy1, cy2, cy3, cy4, cy5, cy6⟩ := HVY.out
    go_wp2_with fail
    refine (swho_any xs ys _ _ _ _ _ _ _ _ _ _ _ _ _ _ _ _ _ _ _ _ _ _ _ _ HX.out HY.out hpl hql hpb hqb (by omega)).mono ?_
    rintro e w5 ⟨ao5, d5, rfl, hR, hbel⟩
    rw [hsh.out, hW.out, hk0.out] at hR ⊢
    have HP := hide hR
    clear hR
    clear ccL cc0 cc1 cc2
    clear cxL cx0 cx1 cx2 cx3 cx4 cx5 cx6
    clear cyL cy0 cy1 cy2 cy3 cy4 cy5 cy6
    replace HC := hide (HC.out.below hbel)
    replace HVX := hide (HVX.out.below hbel)
    replace HVY := hide (HVY.out.below hbel)
    replace HX := hide (HX.out.below hbel)
    replace HY := hide (HY.out.below hbel)
    replace HN := hide (HN.out.trans (hbel.mono HN.out.size))
    clear hbel
    obtain ⟨ccL, cc0, cc1, cc2⟩ := HC.out
    obtain ⟨cxL, cx0, cx1, cx2, cx3, cx4, cx5, cx6⟩ := HVX.out
    obtain ⟨cyL, cy0, cy1, cy2, cy3, cy4, cy5, cy6⟩ := HVY.out
    go_wp2_with fail
    refine (both_any xs ys _ _ _ _ _ _ _ _ _ _ _ _ _ _ _ _ _ _ _ HX.out HY.out hpl hql).mono ?_
    rintro e w6 ⟨vq, rfl, hown, hbel⟩
    obtain ⟨ao6, d6, rfl, hR⟩ := RowIn.ofOwned hown
    rw [hm.out] at hR ⊢
    have HQ := hide hR
    clear hR hown
    clear ccL cc0 cc1 cc2
    clear cxL cx0 cx1 cx2 cx3 cx4 cx5 cx6
    clear cyL cy0 cy1 cy2 cy3 cy4 cy5 cy6
    replace HC := hide (HC.out.below hbel)
    replace HVX := hide (HVX.out.below hbel)
    replace HVY := hide (HVY.out.below hbel)
    replace HX := hide (HX.out.below hbel)
    replace HY := hide (HY.out.below hbel)
    replace HP := hide (HP.out.below hbel)
    replace HN := hide (HN.out.trans (hbel.mono HN.out.size))
    clear hbel
    obtain ⟨ccL, cc0, cc1, cc2⟩ := HC.out
    obtain ⟨cxL, cx0, cx1, cx2, cx3, cx4, cx5, cx6⟩ := HVX.out
    obtain ⟨cyL, cy0, cy1, cy2, cy3, cy4, cy5, cy6⟩ := HVY.out
    have hc5 := HP.out.cap
    have hc6 := HQ.out.cap
    unfold maxLen at hc5 hc6
    go_wp2_with fail
    refine (right_any xs _ _ _ _ _ _ _ _ _ _ _ _ _ _ _ HX.out hpb (by omega)).mono ?_
    rintro e w7 ⟨rfl, hbel⟩
    rw [hr1.out]
    clear ccL cc0 cc1 cc2
    clear cxL cx0 cx1 cx2 cx3 cx4 cx5 cx6
    clear cyL cy0 cy1 cy2 cy3 cy4 cy5 cy6
    replace HC := hide (HC.out.below hbel)
    replace HVX := hide (HVX.out.below hbel)
    replace HVY := hide (HVY.out.below hbel)
    replace HX := hide (HX.out.below hbel)
    replace HY := hide (HY.out.below hbel)
    replace HP := hide (HP.out.below hbel)
    replace HQ := hide (HQ.out.below hbel)
    replace HN := hide (HN.out.trans (hbel.mono HN.out.size))
    clear hbel
    obtain ⟨ccL, cc0, cc1, cc2⟩ := HC.out
    obtain ⟨cxL, cx0, cx1, cx2, cx3, cx4, cx5, cx6⟩ := HVX.out
    obtain ⟨cyL, cy0, cy1, cy2, cy3, cy4, cy5, cy6⟩ := HVY.out
    cases r1 with
    | false =>
      have hsf : sh = false := by rw [hsv.out]; rfl
      subst hsf
      have hWe : W = [] := by rw [← hW.out, shown, if_neg (by simp)]
      obtain rfl : k0 = 0 := by rw [← hk0.out, hWe]; rfl
      rw [show errP false = .iface 43 (.int .i64 11) from rfl]
      have hg := (HN.out.cell (p := ⟨0, 0, none⟩) HL.out).trans HG.out
      go_wp2_with fail
      refine (number_any 11 _ hg).mono ?_
      rintro e w10 ⟨rfl, hbel⟩
      clear hg
      replace HN := hide (HN.out.trans (hbel.mono HN.out.size))
      clear hbel
      go_wp2
      go_ret
      exact ⟨rfl, HN.out⟩
    | true =>
    go_wp2_with fail
    refine (right_any ys _ _ _ _ _ _ _ _ _ _ _ _ _ _ _ HY.out hqb (by omega)).mono ?_
    rintro e w8 ⟨rfl, hbel⟩
    rw [hr2.out]
    clear ccL cc0 cc1 cc2
    clear cxL cx0 cx1 cx2 cx3 cx4 cx5 cx6
    clear cyL cy0 cy1 cy2 cy3 cy4 cy5 cy6
    replace HC := hide (HC.out.below hbel)
    replace HVX := hide (HVX.out.below hbel)
    replace HVY := hide (HVY.out.below hbel)
    replace HX := hide (HX.out.below hbel)
    replace HY := hide (HY.out.below hbel)
    replace HP := hide (HP.out.below hbel)
    replace HQ := hide (HQ.out.below hbel)
    replace HN := hide (HN.out.trans (hbel.mono HN.out.size))
    clear hbel
    obtain ⟨ccL, cc0, cc1, cc2⟩ := HC.out
    obtain ⟨cxL, cx0, cx1, cx2, cx3, cx4, cx5, cx6⟩ := HVX.out
    obtain ⟨cyL, cy0, cy1, cy2, cy3, cy4, cy5, cy6⟩ := HVY.out
    cases r2 with
    | false =>
      have hsf : sh = false := by rw [hsv.out]; rfl
      subst hsf
      have hWe : W = [] := by rw [← hW.out, shown, if_neg (by simp)]
      obtain rfl : k0 = 0 := by rw [← hk0.out, hWe]; rfl
      rw [show errP false = .iface 43 (.int .i64 11) from rfl]
      have hg := (HN.out.cell (p := ⟨0, 0, none⟩) HL.out).trans HG.out
      go_wp2_with fail
      refine (number_any 11 _ hg).mono ?_
      rintro e w10 ⟨rfl, hbel⟩
      clear hg
      replace HN := hide (HN.out.trans (hbel.mono HN.out.size))
      clear hbel
      go_wp2
      go_ret
      exact ⟨rfl, HN.out⟩
    | true =>
    go_wp2_with fail
    refine (bad_any _ _ _ _ _ _ _ _ _ _ _ _ _ _ _ _ _ _ _).mono ?_
    rintro e w9 ⟨rfl, hbel⟩
    rw [hr3.out]
    clear ccL cc0 cc1 cc2
    clear cxL cx0 cx1 cx2 cx3 cx4 cx5 cx6
    clear cyL cy0 cy1 cy2 cy3 cy4 cy5 cy6
    replace HP := hide (HP.out.below hbel)
    replace HQ := hide (HQ.out.below hbel)
    replace HN := hide (HN.out.trans (hbel.mono HN.out.size))
    clear hbel
    clear HC HVX HVY HX HY
    cases r3 with
    | false =>
      have hsf : sh = false := by rw [hsv.out]; rfl
      subst hsf
      have hWe : W = [] := by rw [← hW.out, shown, if_neg (by simp)]
      obtain rfl : k0 = 0 := by rw [← hk0.out, hWe]; rfl
      rw [show errP false = .iface 43 (.int .i64 11) from rfl]
      have hg := (HN.out.cell (p := ⟨0, 0, none⟩) HL.out).trans HG.out
      go_wp2_with fail
      refine (number_any 11 _ hg).mono ?_
      rintro e w10 ⟨rfl, hbel⟩
      clear hg
      replace HN := hide (HN.out.trans (hbel.mono HN.out.size))
      clear hbel
      go_wp2
      go_ret
      exact ⟨rfl, HN.out⟩
    | true =>
    by_cases hm0 : m = 0
    · subst hm0
      have hsf : sh = false := by rw [hsv.out]; rfl
      subst hsf
      have hWe : W = [] := by rw [← hW.out, shown, if_neg (by simp)]
      obtain rfl : k0 = 0 := by rw [← hk0.out, hWe]; rfl
      rw [show errP false = .iface 43 (.int .i64 11) from rfl]
      have hg := (HN.out.cell (p := ⟨0, 0, none⟩) HL.out).trans HG.out
      go_wp2_with fail
      refine (number_any 11 _ hg).mono ?_
      rintro e w10 ⟨rfl, hbel⟩
      clear hg
      replace HN := hide (HN.out.trans (hbel.mono HN.out.size))
      clear hbel
      go_wp2
      go_ret
      exact ⟨rfl, HN.out⟩
    · have hst : sh = true := by rw [hsv.out, decide_eq_true (by omega)]; rfl
      subst hst
      have hWb : W = bth xs ys := by rw [← hW.out, shown, if_pos rfl]
      have hkm : k0 = m := by rw [← hk0.out, hWb, hm.out]
      subst hWb
      subst hkm
      have hm1 : ¬ (k0 : Int) = 0 := by omega
      rw [show errP true = .nilIface from rfl]
      clear hsv hm hk0
      go_wp2
      go_loopw [76] (fun i wr => ∃ k : Nat, k ≤ k0 ∧ i = .int .i64 k ∧ Hid (Below w9.heap.size w9 wr)) (fun i _ => k0 - (intOf i).toNat)
      case atStart => exact ⟨0, Nat.zero_le _, rfl, hide (Below.refl _ _)⟩
      case round =>
        obtain ⟨k, hk, rfl, hI⟩ := hrel
        by_cases hlt : k < k0
        · obtain ⟨b5, o5, rfl, hb5, c5⟩ := (HP.out.below hI.out).cell k hlt
          obtain ⟨b6, o6, rfl, hb6, c6⟩ := (HQ.out.below hI.out).cell k hlt
          have hki : (0 : Int) ≤ (k : Int) ∧ (k : Int) < (k0 : Int) := by omega
          obtain ⟨x, hx⟩ : ∃ x, Hid ((bth xs ys).getD k 0 = x) := ⟨_, rfl⟩
          rw [hx.out] at c5 c6
          go_wp2
          go_quiet (fail)
          go_wp2
          go_roundw
          case rel => exact ⟨k + 1, by omega, by go_num, hide (below_drewN hI.out _)⟩
          case measure => simp [intOf]; omega
        · have : k = k0 := by omega
          subst this
          go_wp2
          go_ret
          exact ⟨rfl, HN.out.trans (hI.out.mono HN.out.size)⟩

set_option maxRecDepth 100000 in
theorem lifted (os : Os) (started : os.Started) (H : Type) (enc : TypeId × Value → H) :
    ReturnsInHanded {} Tryd.checked os 3 .any (fun w args => (Rows.slashWhoSpec.pre enc Tryd.prog Tryd.f3 [] false w args ∧ laidMetH Tryd.prog laid w) ∧ sizedMet enc Tryd.prog Tryd.f3 (OpenSpec.ofChange Rows.slashWhoSpec) false w args)
      (Rows.slashWhoSpec.post enc Tryd.prog Tryd.f3 false true false false) := by
  refine returnsInHanded_of_change_and (C := Tryd.checked) (X := fun w _ => laidMetH Tryd.prog laid w) (fun _ _ _ hh h => h.of_heap hh) own started (by kernel_rfl) Tryd.func3
    (ChangeSpec.witness_at (enc := enc) (C := Tryd.checked) (os := os) (X := fun w _ => laidMetH Tryd.prog laid w) false (laidWorld os) #[.agg #[.slice none 0 0, .int .i64 0, .int .i64 0], .agg #[.int .i64 0, .int .u64 0, .int .i64 0, .int .u64 0, .int .i64 0, .int .u64 0, .slice none 0 0], .agg #[.int .i64 0, .int .u64 0, .int .i64 0, .int .u64 0, .int .i64 0, .int .u64 0, .slice none 0 0], .bool false] 8 rfl (by kernel_rfl) (by kernel_rfl) (by kernel_rfl) (by kernel_rfl) (by kernel_rfl) (laidWorld_met os _)) ?_
  intro W base args ds gs before hval0 hW _ hsz0 hL _
  have hg := handle_of_laid hL
  have hval : ∀ (j : Nat) t v, Tryd.f3.params[j]? = some t → args[j]? = some v → Value.okWide Tryd.prog W .any base t v := hval0
  have hsz : (DataW.weightsEach Tryd.prog (Tryd.f3.params.toList ++ Rows.slashWhoSpec.plain.varTypes Tryd.prog) (ds ++ gs)).all (· ≤ reachBytes) = true := hsz0
  have hW' := hW
  obtain ⟨p, q, hA0, hV, rfl, hfz, hnd⟩ := hW
  have hA : DataW.TrodAll enc Tryd.prog W 0 (fun _ => true) true Tryd.f3.params.toList args.toList ds p := hA0
  rw [Tryd.params3] at hA hval hsz
  obtain ⟨v0, vs0, d0, ds0, p0, q0, hargs, rfl, rfl, h0, r0⟩ := trodAll_cons hA
  obtain ⟨v1, vs1, d1, ds1, p1, q1, rfl, rfl, rfl, h1, r1⟩ := trodAll_cons r0
  obtain ⟨v2, vs2, d2, ds2, p2, q2, rfl, rfl, rfl, h2, r2⟩ := trodAll_cons r1
  obtain ⟨v3, vs3, d3, ds3, p3, q3, rfl, rfl, rfl, h3, r3⟩ := trodAll_cons r2
  obtain ⟨rfl, rfl, rfl⟩ := trodAll_nil r3
  obtain rfl : args = #[v0, v1, v2, v3] := by cases args; simp_all
  obtain ⟨rfl, rfl⟩ := trodVars_none hV
  obtain ⟨⟨cs0⟩, rfl, sz0⟩ := okWide_struct Tryd.underlying24 (hval 0 24 v0 rfl rfl)
  clear sz0
  have k0 := h0
  have lt0 : ∀ x ∈ p0, x.block < W.heap.size := by obtain ⟨m, hm⟩ := k0; exact DataW.trod_lt m _ _ _ hm
  have wt0 : ∀ n ∈ d0.weights Tryd.prog 24, n ≤ reachBytes := fun n hn => by
    have := List.all_eq_true.1 hsz n (DataW.weights_mem_each (j := 0) (t := 24) (d := d0) rfl rfl n hn)
    simpa using this
  obtain ⟨fuel0, hf0⟩ := h0
  simp only [Value.cells] at hf0
  obtain ⟨e0, w0, r0S⟩ := (Sh.readS reachBytes _).1 _ _ _ _ has24 hf0 wt0
  obtain ⟨⟨cs1⟩, rfl, sz1⟩ := okWide_struct Tryd.underlying30 (hval 1 30 v1 rfl rfl)
  clear sz1
  have k1 := h1
  have lt1 : ∀ x ∈ p1, x.block < W.heap.size := by obtain ⟨m, hm⟩ := k1; exact DataW.trod_lt m _ _ _ hm
  have wt1 : ∀ n ∈ d1.weights Tryd.prog 30, n ≤ reachBytes := fun n hn => by
    have := List.all_eq_true.1 hsz n (DataW.weights_mem_each (j := 1) (t := 30) (d := d1) rfl rfl n hn)
    simpa using this
  obtain ⟨fuel1, hf1⟩ := h1
  simp only [Value.cells] at hf1
  obtain ⟨e1, w1, r1S⟩ := (Sh.readS reachBytes _).1 _ _ _ _ has30 hf1 wt1
  obtain ⟨⟨cs2⟩, rfl, sz2⟩ := okWide_struct Tryd.underlying30 (hval 2 30 v2 rfl rfl)
  clear sz2
  have k2 := h2
  have lt2 : ∀ x ∈ p2, x.block < W.heap.size := by obtain ⟨m, hm⟩ := k2; exact DataW.trod_lt m _ _ _ hm
  have wt2 : ∀ n ∈ d2.weights Tryd.prog 30, n ≤ reachBytes := fun n hn => by
    have := List.all_eq_true.1 hsz n (DataW.weights_mem_each (j := 2) (t := 30) (d := d2) rfl rfl n hn)
    simpa using this
  obtain ⟨fuel2, hf2⟩ := h2
  simp only [Value.cells] at hf2
  obtain ⟨e2, w2, r2S⟩ := (Sh.readS reachBytes _).1 _ _ _ _ has30 hf2 wt2
  obtain ⟨a3, rfl, rfl, rfl⟩ := open_bool Tryd.underlying4 (hval 3 4 v3 rfl rfl) h3
  clear hA0 hval0
  refine (walk cs0 e0 cs1 e1 cs2 e2 a3 W w0 r0S w1 r1S w2 r2S hg).mono fun e W' ⟨he, bel⟩ => ?_
  subst he
  exact ⟨_, rfl, _, _, _, [], _, [], hW', trodAll_mk1 (shut_bool Tryd.underlying4 _), (trodAll_cons_mk (Below.trod laidOut (by kernel_rfl) (of_decide_eq_true (by kernel_rfl)) k0 bel lt0) (trodAll_cons_mk (Below.trod laidOut (by kernel_rfl) (of_decide_eq_true (by kernel_rfl)) k1 bel lt1) (trodAll_cons_mk (Below.trod laidOut (by kernel_rfl) (of_decide_eq_true (by kernel_rfl)) k2 bel lt2) (trodAll_cons_mk (shut_bool Tryd.underlying4 _) trodAll_mk0)))), rfl, bel.frame _, fun h => by cases h⟩

theorem over : Rows.SlashWhoSaid :=
  OpenClaim.holds_of_wide 3 Tryd.f3 rfl rfl rfl rfl rfl rfl rfl ⟨rfl, rfl, rfl, rfl, rfl⟩ rfl rfl rfl rfl rfl (by kernel_rfl) Tryd.func3 (by kernel_rfl)
    (of_decide_eq_true (by kernel_rfl)) (by unfold Func.isWrapper; rw [if_neg (of_decide_eq_false (by kernel_rfl))]; exact ⟨rfl, rfl⟩)
    (fun os started H enc _ => lifted os started H enc)

theorem proved : Rows.SlashWhoCardSaid :=
  Claim7.holds_tied_plain_at .later [] [.handle] true (true, "f2bb3fc719b9f02d84c13fe440f902d19508b8e4122c2de0e99f295358eb8b54") true
    over (fun _ h => by cases h) (by kernel_rfl) (fun _ h => by cases h) slashWho_row_tie rfl ⟨rfl, rfl⟩ (by kernel_rfl) rfl
    (fun f fn hf hfn => by
      obtain rfl : f = 3 := Option.some.inj ((show Tryd.prog.funcNamed "psephos/psephoslaw06.SlashWho" = some 3 by kernel_rfl).symm.trans hf) |>.symm
      obtain rfl : fn = Tryd.f3 := (Option.some.inj (Tryd.func3.symm.trans hfn)).symm
      exact ⟨by kernel_rfl, fun j t ht => by
        rw [Tryd.params3] at ht
        have h3 : t ∈ [24, 30, 30, 4] := by
          have := List.mem_of_getElem? (l := [24, 30, 30, 4]) (i := j) (by simpa using ht)
          exact this
        simp only [List.mem_cons, List.not_mem_nil, or_false] at h3
        rcases h3 with rfl | rfl | rfl | rfl
        · exact (show Tryd.prog.wantsStandIn 24 = false by kernel_rfl)
        · exact (show Tryd.prog.wantsStandIn 30 = false by kernel_rfl)
        · exact (show Tryd.prog.wantsStandIn 30 = false by kernel_rfl)
        · exact (show Tryd.prog.wantsStandIn 4 = false by kernel_rfl)⟩)
    (by kernel_rfl)
end Go.Proofs.YtbmajbbgfolmiaaDoor.slashWhoCard

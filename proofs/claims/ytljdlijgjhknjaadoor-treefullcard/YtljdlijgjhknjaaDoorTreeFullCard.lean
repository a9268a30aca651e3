/-
  there is room for 1024 blocks (TreeFull is true of every input); the package variable errors.errorType reads as the program's text lays it. This is the tied card.
-/
import Derived.Test.YtljdlijgjhknjaaDoorRows

import Derived.Test.YtljdlijgjhknjaaDoorTie

import Derived.Test.YtljdlijgjhknjaaDoorCards

import Derived.ChangeSame

import Derived.ChangeVars

import Derived.JoinedOf

import Derived.RowKit

import Derived.RowKitTokens

import Derived.LaidLaws

import Derived.LaidHandle

import Derived.Stop.Joined

import Derived.SevenTiedAt

import Derived.WalkKit

import Derived.Below

import Derived.ProofKit

import Derived.OpenShut

import Derived.ShutString

import Derived.ChangeOld

import Derived.Test.YtljdlijgjhknjaaDoorTKids

import Derived.Test.YtljdlijgjhknjaaDoorANumb2

namespace Go.Proofs.YtljdlijgjhknjaaDoor.treeFullCard

open Go.ChangeShapes Go.WideShapes Go.ChangeAt Go.RowKit

set_option linter.unusedVariables false

theorem et : Tryd.prog.globalNamed "errors.errorType" = some 0 := by kernel_rfl
theorem rt : (Tryd.prog.cutTypes.find? (·.1 == "internal/reflectlite.rtype")).map (·.2) = some 96 := by kernel_rfl
theorem size : Tryd.prog.types.size = 145 := by kernel_rfl
theorem oneRow : ((List.range 145).filter fun t => Tryd.prog.rowNamed t [101, 114, 114, 111, 114]) = [40] := by kernel_rfl
abbrev laid : List (String × DataW Unit) := [("errors.errorType", Rows.laid_errors_errorType)]
theorem handle_of_laid {W : World} (h : laidMetH Tryd.prog laid W) : W.cell? ⟨0, 0, none⟩ = some (.iface 96 (.agg #[.pointer (some ⟨1, 40, none⟩)])) := by
  have h' : laidMet Tryd.prog [] W ∧ handlesMet Tryd.prog laid W := h
  obtain ⟨name, u, ty, e1, e2, e3, e4, e5⟩ := h'.2 _ (List.mem_singleton.2 rfl)
  have en : name = [101, 114, 114, 111, 114] := (Option.some.inj e1).symm
  subst en
  obtain rfl := Option.some.inj (rt.symm.trans e2)
  have hm : ty ∈ (List.range 145).filter fun t => Tryd.prog.rowNamed t [101, 114, 114, 111, 114] := List.mem_filter.2 ⟨List.mem_range.2 (by rw [← size]; exact e3), e4⟩
  rw [oneRow] at hm
  obtain rfl := List.mem_singleton.1 hm
  have hh : typeHandle Tryd.prog 40 = .pointer (some ⟨1, 40, none⟩) := by kernel_rfl
  rw [hh] at e5
  simpa using World.var?_cell et e5 0
noncomputable def laidWorld (os : Os) : World :=
  let w0 := World.holding Tryd.prog os ⟨#[], #[], []⟩
  { w0 with heap := w0.heap.modify 0 fun
      | .cells _ t frozen => .cells #[.iface 96 (.agg #[.pointer (some ⟨1, 40, none⟩)])] t frozen
      | o => o }
theorem laidWorld_met (os : Os) (args : Array Value) : laidMetH Tryd.prog laid ((laidWorld os).forCall (fun _ _ => 0) ⟨#[], args, []⟩).memory :=
  laidMetH_of_parts (laidMet_nil _ _) (by kernel_rfl)
theorem own : ownKnob Tryd.prog.godebug = none := by kernel_rfl
theorem laidOut : laidOutB Tryd.prog = true := by kernel_rfl
theorem cells4 : Tryd.prog.cellsOf 4 = 1 := by kernel_rfl
theorem cells5 : Tryd.prog.cellsOf 5 = 1 := by kernel_rfl

set_option maxRecDepth 100000 in
set_option maxHeartbeats 4000000 in
theorem walk (a0 : Int) (w : World) (w0 : (Lit.int .u8 a0).wf = true) (hg : w.cell? ⟨0, 0, none⟩ = some (.iface 96 (.agg #[.pointer (some ⟨1, 40, none⟩)]))) :
    Calls Tryd.prog 4 #[.int .u8 a0] w fun e w' => e = .returned (.bool true) ∧ Below w.heap.size w w' := by
  have hA : 0 ≤ a0 ∧ a0 ≤ 255 := by simpa [Lit.wf, IntKind.min, IntKind.max, IntKind.signed, IntKind.bits] using w0
  obtain ⟨m, rfl⟩ : ∃ m : Nat, a0 = (m : Int) := ⟨a0.toNat, by omega⟩
  have hm := hide (show m ≤ 255 by omega)
  have hlt0 : 0 < w.heap.size := by
    rcases Nat.eq_zero_or_pos w.heap.size with h0 | h
    · simp [World.cell?, h0] at hg
    · exact h
  have HG := hide hg
  have HL := hide hlt0
  clear hg hlt0 w0 hA
  go_enter Tryd.func4, Tryd.ntmps4
  go_wp2_with fail
  refine (awake_any _).mono ?_
  rintro e w1 ⟨rfl, hb1⟩
  have HB1 := hide hb1
  clear hb1
  go_wp2_with fail
  refine (of_any 1 0 w1 (u_lit (by simp))).mono ?_
  rintro e w2 ⟨p, rfl, hT, hB⟩
  have HB2 := hide hB
  have HT := hide hT
  clear hT hB
  have hm1 : wrap64 (m : Int) = (m : Int) := by have := hm.out; unfold wrap64; omega
  have hm2 : wrap64 (1024 + (m : Int)) = 1024 + (m : Int) := by have := hm.out; unfold wrap64; omega
  go_wp2
  go_loopw [4] (fun v wr => ∃ i : Nat, v = .int .i64 (i : Int) ∧ Hid (2 ≤ i ∧ i ≤ 1025 + m ∧ ∃ bs, IsStar bs (min (i - 1) 1024) ∧ TAt wr (fun q => w1.heap.size ≤ q) p bs ∧ Below w1.heap.size w1 wr)) (fun v _ => 1025 + m - (intOf v).toNat)
  case atStart => exact ⟨2, rfl, hide ⟨Nat.le_refl _, by omega, _, IsStar.one, HT.out, HB2.out⟩⟩
  case round =>
    clear HT HB2
    obtain ⟨i, rfl, hI⟩ := hrel
    obtain ⟨h2, hi, bs, hS, hT, hB⟩ := hI.out
    have HS := hide hS
    have HT := hide hT
    have HB := hide hB
    have Hi := hide (⟨h2, hi⟩ : 2 ≤ i ∧ i ≤ 1025 + m)
    clear hI hS hT hB h2 hi
    by_cases hle : i ≤ 1024 + m
    · have Hle := hide hle
      have HU : Hid (U64 (i : Int) ∧ I64 (1 + (i : Int)) ∧ 2 ≤ i + 1 ∧ i + 1 ≤ 1025 + m ∧ 1025 + m - (i + 1) < 1025 + m - i) := by
        have := Hi.out
        have := hm.out
        clear hm1 hm2
        refine hide ⟨?_, ?_, ?_, ?_, ?_⟩
        · unfold U64; omega
        · unfold I64; omega
        · omega
        · omega
        · omega
      have hd : decide ((i : Int) ≤ 1024 + (m : Int)) = true := by clear hm1 hm2; exact decide_eq_true (by omega)
      have hwi : IntKind.u64.wrap (i : Int) = (i : Int) := by have := HU.out.1; clear hm1 hm2; unfold U64 at this; rw [IntKind.wrap_u64]; omega
      have hw1 : wrap64 (1 + (i : Int)) = 1 + (i : Int) := by have := HU.out.2.1; clear hm1 hm2; unfold I64 at this; unfold wrap64; omega
      have hw2 : wrap64 ((i : Int) + 1) = (i : Int) + 1 := by have := HU.out.2.1; clear hm1 hm2; unfold I64 at this; unfold wrap64; omega
      have hm' := hm.out
      clear hle
      go_wp2_with fail
      refine (add_one w1.heap.size p bs (i : Int) 1 (1 + (i : Int)) wr HB.out.size HT.out HS.out.ok HU.out.1 (u_lit (by simp)) HU.out.2.1).mono ?_
      rintro e w3 ⟨rfl, bs', hN, hT, hB⟩
      obtain ⟨hE, hS'⟩ := star_step HS.out Hi.out.1 Hle.out hm' hN
      have HR : Hid (2 ≤ i + 1 ∧ i + 1 ≤ 1025 + m ∧ ∃ bs, IsStar bs (min (i + 1 - 1) 1024) ∧ TAt w3 (fun q => w1.heap.size ≤ q) p bs ∧ Below w1.heap.size w1 w3) := ⟨HU.out.2.2.1, HU.out.2.2.2.1, bs', hS', hT, HB.out.trans hB⟩
      have HBT := hide (HB1.out.trans ((HB.out.trans hB).mono HB1.out.size))
      by_cases h1024 : i ≤ 1024
      · rw [if_pos h1024] at hE
        rw [hE, show errV 0 = .nilIface from rfl]
        have hd2 : decide ((i : Int) ≤ 1024) = true := decide_eq_true (by clear hm1 hm2 hw1 hw2 hwi hd hE; omega)
        clear hE hS' hT hB hN HS HT HB h1024 hm' HBT
        go_wp2
        go_roundw
        case rel => exact ⟨i + 1, by rw [hw2]; rfl, HR⟩
        case measure => exact full_less (1025 + m) i hw2 (Nat.lt_of_lt_of_le (Nat.lt_succ_self i) HU.out.2.2.2.1)
      · rw [if_neg h1024] at hE
        rw [hE, show errV 12 = .iface 37 (.int .i64 12) from rfl]
        have hd2 : decide ((i : Int) ≤ 1024) = false := decide_eq_false (by clear hm1 hm2 hw1 hw2 hwi hd hE; omega)
        have HNUM := hide (number_any 12 w3 ((HBT.out.cell (p := ⟨0, 0, none⟩) HL.out).trans HG.out))
        clear hE hS' hT hB hN HS HT HB h1024 hm'
        go_wp2_with fail
        refine HNUM.out.mono ?_
        rintro e w4 ⟨rfl, hb4⟩
        have HR2 : Hid (2 ≤ i + 1 ∧ i + 1 ≤ 1025 + m ∧ ∃ bs, IsStar bs (min (i + 1 - 1) 1024) ∧ TAt w4 (fun q => w1.heap.size ≤ q) p bs ∧ Below w1.heap.size w1 w4) := by
          obtain ⟨h1, h2, bs2, h3, h4, h5⟩ := HR.out
          exact ⟨h1, h2, bs2, h3, h4.below hb4, h5.trans (hb4.mono h5.size)⟩
        clear hb4 HR HNUM HBT
        go_wp2
        go_roundw
        case rel => exact ⟨i + 1, by rw [hw2]; rfl, HR2⟩
        case measure => exact full_less (1025 + m) i hw2 (Nat.lt_of_lt_of_le (Nat.lt_succ_self i) HU.out.2.2.2.1)
    · have hd : decide ((i : Int) ≤ 1024 + (m : Int)) = false := by clear hm1 hm2; exact decide_eq_false (by omega)
      have hmin : min (i - 1) 1024 = 1024 := by have := Hi.out; clear hm1 hm2 hd; omega
      rw [hmin] at HS
      have HLN := hide (len_any _ p bs wr HT.out HS.out.ok)
      have HKD := hide (kids_any _ p bs 1 0 wr HT.out HS.out.ok (u_lit (by simp)) (HS.out.idx (j := 0) (by omega)))
      rw [HS.out.len] at HLN
      have HE := hide (HB1.out.trans (HB.out.mono HB1.out.size))
      have hkl : (tb bs 0).kids.length = 1023 := by have := HS.out.kid; clear hm1 hm2 hd; omega
      have HKL := hide hkl
      clear hle hmin HT HB HS Hi hkl
      go_wp2_with (first
        | (go_at_call 17; refine HLN.out.mono ?_; rintro e w' ⟨rfl, hw⟩; obtain rfl : _ = w' := hw.symm))
      refine HKD.out.mono ?_
      rintro e w5 ⟨v, rfl, ho, hb5⟩
      rw [HKL.out] at ho
      obtain ⟨va, vc, rfl, _⟩ := RowIn.ofOwned ho
      have HE2 := hide (HE.out.trans (hb5.mono HE.out.size))
      clear ho hb5 HKD HLN
      go_wp2
      go_ret
      exact ⟨rfl, HE2.out⟩

set_option maxRecDepth 100000 in
theorem lifted (os : Os) (started : os.Started) (H : Type) (enc : TypeId × Value → H) :
    ReturnsInHanded {} Tryd.checked os 4 .any (fun w args => (Rows.treeFullSpec.pre enc Tryd.prog Tryd.f4 [] false w args ∧ laidMetH Tryd.prog laid w) ∧ sizedMet enc Tryd.prog Tryd.f4 (OpenSpec.ofChange Rows.treeFullSpec) false w args)
      (Rows.treeFullSpec.post enc Tryd.prog Tryd.f4 false true false false) := by
  refine returnsInHanded_of_change_and (C := Tryd.checked) (X := fun w _ => laidMetH Tryd.prog laid w) (fun _ _ _ hh h => h.of_heap hh) own started (by kernel_rfl) Tryd.func4
    (ChangeSpec.witness_at (enc := enc) (C := Tryd.checked) (os := os) (X := fun w _ => laidMetH Tryd.prog laid w) false (laidWorld os) #[.int .u8 0] 8 rfl (by kernel_rfl) (by kernel_rfl) (by kernel_rfl) (by kernel_rfl) (by kernel_rfl) (laidWorld_met os _)) ?_
  intro W base args ds gs before hval0 hW _ _ hL _
  have hg := handle_of_laid hL
  have hval : ∀ (j : Nat) t v, Tryd.f4.params[j]? = some t → args[j]? = some v → Value.okWide Tryd.prog W .any base t v := hval0
  have hW' := hW
  obtain ⟨p, q, hA0, hV, rfl, hfz, hnd⟩ := hW
  have hA : DataW.TrodAll enc Tryd.prog W 0 (fun _ => true) true Tryd.f4.params.toList args.toList ds p := hA0
  rw [Tryd.params4] at hA hval
  obtain ⟨v0, vs0, d0, ds0, p0, q0, hargs, rfl, rfl, h0, r0⟩ := trodAll_cons hA
  obtain ⟨rfl, rfl, rfl⟩ := trodAll_nil r0
  obtain rfl : args = #[v0] := by cases args; simp_all
  obtain ⟨rfl, rfl⟩ := trodVars_none hV
  obtain ⟨a0, rfl, rfl, rfl, w0⟩ := open_int Tryd.underlying5 (hval 0 5 v0 rfl rfl) h0
  clear hA0 hval0
  refine (walk a0 W w0 hg).mono fun e W' ⟨he, bel⟩ => ?_
  subst he
  exact ⟨_, rfl, _, _, _, [], _, [], hW', trodAll_mk1 (shut_bool Tryd.underlying4 _), (trodAll_cons_mk (shut_int Tryd.underlying5 w0) trodAll_mk0), rfl, bel.frame _, fun h => by cases h⟩

theorem over : Rows.TreeFullSaid :=
  OpenClaim.holds_of_wide 4 Tryd.f4 rfl rfl rfl rfl rfl rfl rfl ⟨rfl, rfl, rfl, rfl, rfl⟩ rfl rfl rfl rfl rfl (by kernel_rfl) Tryd.func4 (by kernel_rfl)
    (of_decide_eq_true (by kernel_rfl)) (by unfold Func.isWrapper; rw [if_neg (of_decide_eq_false (by kernel_rfl))]; exact ⟨rfl, rfl⟩)
    (fun os started H enc _ => lifted os started H enc)

theorem proved : Rows.TreeFullCardSaid :=
  Claim7.holds_tied_plain_at .later [] [.handle] true (true, "bf1a4542a194e67c4152813c1a5cdb2c3c23b87a971f2604c68dad4207b7e57b") true
    over (fun _ h => by cases h) (by kernel_rfl) (fun _ h => by cases h) treeFull_row_tie rfl ⟨rfl, rfl⟩ (by kernel_rfl) rfl
    (fun f fn hf hfn => by
      obtain rfl : f = 4 := Option.some.inj ((show Tryd.prog.funcNamed "psephos/psephoslaw09.TreeFull" = some 4 by kernel_rfl).symm.trans hf) |>.symm
      obtain rfl : fn = Tryd.f4 := (Option.some.inj (Tryd.func4.symm.trans hfn)).symm
      exact ⟨by kernel_rfl, fun j t ht => by
        rw [Tryd.params4] at ht
        have h3 : t ∈ [5] := by
          have := List.mem_of_getElem? (l := [5]) (i := j) (by simpa using ht)
          exact this
        simp only [List.mem_cons, List.not_mem_nil, or_false] at h3
        rcases h3 with rfl
        · exact (show Tryd.prog.wantsStandIn 5 = false by kernel_rfl)⟩)
    (by kernel_rfl)
end Go.Proofs.YtljdlijgjhknjaaDoor.treeFullCard

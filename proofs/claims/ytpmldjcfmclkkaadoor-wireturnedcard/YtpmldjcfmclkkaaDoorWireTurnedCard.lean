/-
  bytes that are read are those of what is read of them; of others a place is told that lies in them: of up to 100 events (WireTurned is true of every input); the package variable errors.errorType reads as the program's text lays it. This is the tied card.
-/
import Derived.Test.YtpmldjcfmclkkaaDoorRows

import Derived.Test.YtpmldjcfmclkkaaDoorTie

import Derived.Test.YtpmldjcfmclkkaaDoorCards

import Derived.ChangeSame

import Derived.ChangeVars

import Derived.JoinedOf

import Derived.RowKit

import Derived.RowKitTokens

import Derived.LaidLaws

import Derived.LaidHandle

import Derived.Stop.Joined

import Derived.SevenTiedAt

import Derived.WalkKit

import Derived.Below

import Derived.ProofKit

import Derived.OpenShut

import Derived.ShutString

import Derived.ChangeOld

import Derived.Test.YtpmldjcfmclkkaaDoorShapes

import Derived.Test.YtpmldjcfmclkkaaDoorWTurn2

namespace Go.Proofs.YtpmldjcfmclkkaaDoor.wireTurnedCard

open Go.ChangeShapes Go.WideShapes Go.ChangeAt Go.RowKit

set_option linter.unusedVariables false

theorem et : Tryd.prog.globalNamed "errors.errorType" = some 0 := by kernel_rfl
theorem rt : (Tryd.prog.cutTypes.find? (·.1 == "internal/reflectlite.rtype")).map (·.2) = some 94 := by kernel_rfl
theorem size : Tryd.prog.types.size = 138 := by kernel_rfl
theorem oneRow : ((List.range 138).filter fun t => Tryd.prog.rowNamed t [101, 114, 114, 111, 114]) = [45] := by kernel_rfl
abbrev laid : List (String × DataW Unit) := [("errors.errorType", Rows.laid_errors_errorType)]
theorem handle_of_laid {W : World} (h : laidMetH Tryd.prog laid W) : W.cell? ⟨0, 0, none⟩ = some (.iface 94 (.agg #[.pointer (some ⟨1, 45, none⟩)])) := by
  have h' : laidMet Tryd.prog [] W ∧ handlesMet Tryd.prog laid W := h
  obtain ⟨name, u, ty, e1, e2, e3, e4, e5⟩ := h'.2 _ (List.mem_singleton.2 rfl)
  have en : name = [101, 114, 114, 111, 114] := (Option.some.inj e1).symm
  subst en
  obtain rfl := Option.some.inj (rt.symm.trans e2)
  have hm : ty ∈ (List.range 138).filter fun t => Tryd.prog.rowNamed t [101, 114, 114, 111, 114] := List.mem_filter.2 ⟨List.mem_range.2 (by rw [← size]; exact e3), e4⟩
  rw [oneRow] at hm
  obtain rfl := List.mem_singleton.1 hm
  have hh : typeHandle Tryd.prog 45 = .pointer (some ⟨1, 45, none⟩) := by kernel_rfl
  rw [hh] at e5
  simpa using World.var?_cell et e5 0
noncomputable def laidWorld (os : Os) : World :=
  let w0 := World.holding Tryd.prog os ⟨#[], #[], []⟩
  { w0 with heap := w0.heap.modify 0 fun
      | .cells _ t frozen => .cells #[.iface 94 (.agg #[.pointer (some ⟨1, 45, none⟩)])] t frozen
      | o => o }
theorem laidWorld_met (os : Os) (args : Array Value) : laidMetH Tryd.prog laid ((laidWorld os).forCall (fun _ _ => 0) ⟨#[], args, []⟩).memory :=
  laidMetH_of_parts (laidMet_nil _ _) (by kernel_rfl)
theorem own : ownKnob Tryd.prog.godebug = none := by kernel_rfl
theorem laidOut : laidOutB Tryd.prog = true := by kernel_rfl
theorem cells3 : Tryd.prog.cellsOf 3 = 1 := by kernel_rfl
theorem cells4 : Tryd.prog.cellsOf 4 = 1 := by kernel_rfl
theorem cells5 : Tryd.prog.cellsOf 5 = 1 := by kernel_rfl
theorem cells22 : Tryd.prog.cellsOf 22 = 1 := by kernel_rfl
theorem cells23 : Tryd.prog.cellsOf 23 = 1 := by kernel_rfl
theorem cells24 : Tryd.prog.cellsOf 24 = 1 := by kernel_rfl
theorem cells26 : Tryd.prog.cellsOf 26 = 1 := by kernel_rfl
theorem cells27 : Tryd.prog.cellsOf 27 = 1 := by kernel_rfl
theorem cells28 : Tryd.prog.cellsOf 28 = 1 := by kernel_rfl
theorem cells29 : Tryd.prog.cellsOf 29 = 1 := by kernel_rfl
theorem cells31 : Tryd.prog.cellsOf 31 = 5 := by kernel_rfl
theorem cells33 : Tryd.prog.cellsOf 33 = 2 := by kernel_rfl
theorem cells34 : Tryd.prog.cellsOf 34 = 1 := by kernel_rfl
theorem cells36 : Tryd.prog.cellsOf 36 = 7 := by kernel_rfl
theorem cells38 : Tryd.prog.cellsOf 38 = 14 := by kernel_rfl
theorem cells40 : Tryd.prog.cellsOf 40 = 28 := by kernel_rfl
theorem has26 : Sh.Has Tryd.prog (.int .i64) (.inl 26) := Tryd.underlying26
theorem has3 : Sh.Has Tryd.prog (.int .i64) (.inl 3) := Tryd.underlying3
theorem has27 : Sh.Has Tryd.prog (.int .u64) (.inl 27) := Tryd.underlying27
theorem has33 : Sh.Has Tryd.prog (.st (.pair (.int .i64) (.pair (.int .u64) .unit))) (.inl 33) := Sh.has_st Tryd.underlying33 (by kernel_rfl) (Sh.has_pair rfl (by kernel_rfl) has3 (Sh.has_pair rfl (by kernel_rfl) has27 Sh.has_unit))
theorem has34 : Sh.Has Tryd.prog (.slice (.int .i64)) (.inl 34) := Sh.has_slice Tryd.underlying34 (by kernel_rfl) (by decide) has3
theorem has36 : Sh.Has Tryd.prog (.st (.pair (.int .i64) (.pair (.int .u64) (.pair (.st (.pair (.int .i64) (.pair (.int .u64) .unit))) (.pair (.st (.pair (.int .i64) (.pair (.int .u64) .unit))) (.pair (.slice (.int .i64)) .unit)))))) (.inl 36) := Sh.has_st Tryd.underlying36 (by kernel_rfl) (Sh.has_pair rfl (by kernel_rfl) has3 (Sh.has_pair rfl (by kernel_rfl) has27 (Sh.has_pair rfl (by kernel_rfl) has33 (Sh.has_pair rfl (by kernel_rfl) has33 (Sh.has_pair rfl (by kernel_rfl) has34 Sh.has_unit)))))
theorem has28 : Sh.Has Tryd.prog (.slice (.st (.pair (.int .i64) (.pair (.int .u64) (.pair (.st (.pair (.int .i64) (.pair (.int .u64) .unit))) (.pair (.st (.pair (.int .i64) (.pair (.int .u64) .unit))) (.pair (.slice (.int .i64)) .unit))))))) (.inl 28) := Sh.has_slice Tryd.underlying28 (by kernel_rfl) (by decide) has36
theorem has38 : Sh.Has Tryd.prog (.st (.pair (.st (.pair (.int .i64) (.pair (.int .u64) (.pair (.st (.pair (.int .i64) (.pair (.int .u64) .unit))) (.pair (.st (.pair (.int .i64) (.pair (.int .u64) .unit))) (.pair (.slice (.int .i64)) .unit)))))) (.pair (.st (.pair (.int .i64) (.pair (.int .u64) (.pair (.st (.pair (.int .i64) (.pair (.int .u64) .unit))) (.pair (.st (.pair (.int .i64) (.pair (.int .u64) .unit))) (.pair (.slice (.int .i64)) .unit)))))) .unit))) (.inl 38) := Sh.has_st Tryd.underlying38 (by kernel_rfl) (Sh.has_pair rfl (by kernel_rfl) has36 (Sh.has_pair rfl (by kernel_rfl) has36 Sh.has_unit))
theorem has29 : Sh.Has Tryd.prog (.slice (.st (.pair (.st (.pair (.int .i64) (.pair (.int .u64) (.pair (.st (.pair (.int .i64) (.pair (.int .u64) .unit))) (.pair (.st (.pair (.int .i64) (.pair (.int .u64) .unit))) (.pair (.slice (.int .i64)) .unit)))))) (.pair (.st (.pair (.int .i64) (.pair (.int .u64) (.pair (.st (.pair (.int .i64) (.pair (.int .u64) .unit))) (.pair (.st (.pair (.int .i64) (.pair (.int .u64) .unit))) (.pair (.slice (.int .i64)) .unit)))))) .unit)))) (.inl 29) := Sh.has_slice Tryd.underlying29 (by kernel_rfl) (by decide) has38
theorem has31 : Sh.Has Tryd.prog (.st (.pair (.int .u64) (.pair (.int .u64) (.pair (.int .i64) (.pair (.slice (.st (.pair (.int .i64) (.pair (.int .u64) (.pair (.st (.pair (.int .i64) (.pair (.int .u64) .unit))) (.pair (.st (.pair (.int .i64) (.pair (.int .u64) .unit))) (.pair (.slice (.int .i64)) .unit))))))) (.pair (.slice (.st (.pair (.st (.pair (.int .i64) (.pair (.int .u64) (.pair (.st (.pair (.int .i64) (.pair (.int .u64) .unit))) (.pair (.st (.pair (.int .i64) (.pair (.int .u64) .unit))) (.pair (.slice (.int .i64)) .unit)))))) (.pair (.st (.pair (.int .i64) (.pair (.int .u64) (.pair (.st (.pair (.int .i64) (.pair (.int .u64) .unit))) (.pair (.st (.pair (.int .i64) (.pair (.int .u64) .unit))) (.pair (.slice (.int .i64)) .unit)))))) .unit)))) .unit)))))) (.inl 31) := Sh.has_st Tryd.underlying31 (by kernel_rfl) (Sh.has_pair rfl (by kernel_rfl) has27 (Sh.has_pair rfl (by kernel_rfl) has27 (Sh.has_pair rfl (by kernel_rfl) has3 (Sh.has_pair rfl (by kernel_rfl) has28 (Sh.has_pair rfl (by kernel_rfl) has29 Sh.has_unit)))))
theorem has40 : Sh.Has Tryd.prog (.st (.pair (.int .i64) (.pair (.int .i64) (.pair (.st (.pair (.int .u64) (.pair (.int .u64) (.pair (.int .i64) (.pair (.slice (.st (.pair (.int .i64) (.pair (.int .u64) (.pair (.st (.pair (.int .i64) (.pair (.int .u64) .unit))) (.pair (.st (.pair (.int .i64) (.pair (.int .u64) .unit))) (.pair (.slice (.int .i64)) .unit))))))) (.pair (.slice (.st (.pair (.st (.pair (.int .i64) (.pair (.int .u64) (.pair (.st (.pair (.int .i64) (.pair (.int .u64) .unit))) (.pair (.st (.pair (.int .i64) (.pair (.int .u64) .unit))) (.pair (.slice (.int .i64)) .unit)))))) (.pair (.st (.pair (.int .i64) (.pair (.int .u64) (.pair (.st (.pair (.int .i64) (.pair (.int .u64) .unit))) (.pair (.st (.pair (.int .i64) (.pair (.int .u64) .unit))) (.pair (.slice (.int .i64)) .unit)))))) .unit)))) .unit)))))) (.pair (.st (.pair (.int .i64) (.pair (.int .u64) (.pair (.st (.pair (.int .i64) (.pair (.int .u64) .unit))) (.pair (.st (.pair (.int .i64) (.pair (.int .u64) .unit))) (.pair (.slice (.int .i64)) .unit)))))) (.pair (.st (.pair (.st (.pair (.int .i64) (.pair (.int .u64) (.pair (.st (.pair (.int .i64) (.pair (.int .u64) .unit))) (.pair (.st (.pair (.int .i64) (.pair (.int .u64) .unit))) (.pair (.slice (.int .i64)) .unit)))))) (.pair (.st (.pair (.int .i64) (.pair (.int .u64) (.pair (.st (.pair (.int .i64) (.pair (.int .u64) .unit))) (.pair (.st (.pair (.int .i64) (.pair (.int .u64) .unit))) (.pair (.slice (.int .i64)) .unit)))))) .unit))) .unit)))))) (.inl 40) := Sh.has_st Tryd.underlying40 (by kernel_rfl) (Sh.has_pair rfl (by kernel_rfl) has26 (Sh.has_pair rfl (by kernel_rfl) has3 (Sh.has_pair rfl (by kernel_rfl) has31 (Sh.has_pair rfl (by kernel_rfl) has36 (Sh.has_pair rfl (by kernel_rfl) has38 Sh.has_unit)))))
theorem has22 : Sh.Has Tryd.prog (.slice (.st (.pair (.int .i64) (.pair (.int .i64) (.pair (.st (.pair (.int .u64) (.pair (.int .u64) (.pair (.int .i64) (.pair (.slice (.st (.pair (.int .i64) (.pair (.int .u64) (.pair (.st (.pair (.int .i64) (.pair (.int .u64) .unit))) (.pair (.st (.pair (.int .i64) (.pair (.int .u64) .unit))) (.pair (.slice (.int .i64)) .unit))))))) (.pair (.slice (.st (.pair (.st (.pair (.int .i64) (.pair (.int .u64) (.pair (.st (.pair (.int .i64) (.pair (.int .u64) .unit))) (.pair (.st (.pair (.int .i64) (.pair (.int .u64) .unit))) (.pair (.slice (.int .i64)) .unit)))))) (.pair (.st (.pair (.int .i64) (.pair (.int .u64) (.pair (.st (.pair (.int .i64) (.pair (.int .u64) .unit))) (.pair (.st (.pair (.int .i64) (.pair (.int .u64) .unit))) (.pair (.slice (.int .i64)) .unit)))))) .unit)))) .unit)))))) (.pair (.st (.pair (.int .i64) (.pair (.int .u64) (.pair (.st (.pair (.int .i64) (.pair (.int .u64) .unit))) (.pair (.st (.pair (.int .i64) (.pair (.int .u64) .unit))) (.pair (.slice (.int .i64)) .unit)))))) (.pair (.st (.pair (.st (.pair (.int .i64) (.pair (.int .u64) (.pair (.st (.pair (.int .i64) (.pair (.int .u64) .unit))) (.pair (.st (.pair (.int .i64) (.pair (.int .u64) .unit))) (.pair (.slice (.int .i64)) .unit)))))) (.pair (.st (.pair (.int .i64) (.pair (.int .u64) (.pair (.st (.pair (.int .i64) (.pair (.int .u64) .unit))) (.pair (.st (.pair (.int .i64) (.pair (.int .u64) .unit))) (.pair (.slice (.int .i64)) .unit)))))) .unit))) .unit))))))) (.inl 22) := Sh.has_slice Tryd.underlying22 (by kernel_rfl) (by decide) has40

set_option maxRecDepth 100000 in
set_option maxHeartbeats 1000000 in
theorem walk (a0 : Option Addr) (len0 cap0 : Nat) (e0 : Sh.Val (.slice (.st (.pair (.int .i64) (.pair (.int .i64) (.pair (.st (.pair (.int .u64) (.pair (.int .u64) (.pair (.int .i64) (.pair (.slice (.st (.pair (.int .i64) (.pair (.int .u64) (.pair (.st (.pair (.int .i64) (.pair (.int .u64) .unit))) (.pair (.st (.pair (.int .i64) (.pair (.int .u64) .unit))) (.pair (.slice (.int .i64)) .unit))))))) (.pair (.slice (.st (.pair (.st (.pair (.int .i64) (.pair (.int .u64) (.pair (.st (.pair (.int .i64) (.pair (.int .u64) .unit))) (.pair (.st (.pair (.int .i64) (.pair (.int .u64) .unit))) (.pair (.slice (.int .i64)) .unit)))))) (.pair (.st (.pair (.int .i64) (.pair (.int .u64) (.pair (.st (.pair (.int .i64) (.pair (.int .u64) .unit))) (.pair (.st (.pair (.int .i64) (.pair (.int .u64) .unit))) (.pair (.slice (.int .i64)) .unit)))))) .unit)))) .unit)))))) (.pair (.st (.pair (.int .i64) (.pair (.int .u64) (.pair (.st (.pair (.int .i64) (.pair (.int .u64) .unit))) (.pair (.st (.pair (.int .i64) (.pair (.int .u64) .unit))) (.pair (.slice (.int .i64)) .unit)))))) (.pair (.st (.pair (.st (.pair (.int .i64) (.pair (.int .u64) (.pair (.st (.pair (.int .i64) (.pair (.int .u64) .unit))) (.pair (.st (.pair (.int .i64) (.pair (.int .u64) .unit))) (.pair (.slice (.int .i64)) .unit)))))) (.pair (.st (.pair (.int .i64) (.pair (.int .u64) (.pair (.st (.pair (.int .i64) (.pair (.int .u64) .unit))) (.pair (.st (.pair (.int .i64) (.pair (.int .u64) .unit))) (.pair (.slice (.int .i64)) .unit)))))) .unit))) .unit)))))))) (a1 : Int) (a2 : Int) (a3 : Option Addr) (len3 cap3 : Nat) (z3 : List Int) (w : World) (w0 : Sh.In (.slice (.st (.pair (.int .i64) (.pair (.int .i64) (.pair (.st (.pair (.int .u64) (.pair (.int .u64) (.pair (.int .i64) (.pair (.slice (.st (.pair (.int .i64) (.pair (.int .u64) (.pair (.st (.pair (.int .i64) (.pair (.int .u64) .unit))) (.pair (.st (.pair (.int .i64) (.pair (.int .u64) .unit))) (.pair (.slice (.int .i64)) .unit))))))) (.pair (.slice (.st (.pair (.st (.pair (.int .i64) (.pair (.int .u64) (.pair (.st (.pair (.int .i64) (.pair (.int .u64) .unit))) (.pair (.st (.pair (.int .i64) (.pair (.int .u64) .unit))) (.pair (.slice (.int .i64)) .unit)))))) (.pair (.st (.pair (.int .i64) (.pair (.int .u64) (.pair (.st (.pair (.int .i64) (.pair (.int .u64) .unit))) (.pair (.st (.pair (.int .i64) (.pair (.int .u64) .unit))) (.pair (.slice (.int .i64)) .unit)))))) .unit)))) .unit)))))) (.pair (.st (.pair (.int .i64) (.pair (.int .u64) (.pair (.st (.pair (.int .i64) (.pair (.int .u64) .unit))) (.pair (.st (.pair (.int .i64) (.pair (.int .u64) .unit))) (.pair (.slice (.int .i64)) .unit)))))) (.pair (.st (.pair (.st (.pair (.int .i64) (.pair (.int .u64) (.pair (.st (.pair (.int .i64) (.pair (.int .u64) .unit))) (.pair (.st (.pair (.int .i64) (.pair (.int .u64) .unit))) (.pair (.slice (.int .i64)) .unit)))))) (.pair (.st (.pair (.int .i64) (.pair (.int .u64) (.pair (.st (.pair (.int .i64) (.pair (.int .u64) .unit))) (.pair (.st (.pair (.int .i64) (.pair (.int .u64) .unit))) (.pair (.slice (.int .i64)) .unit)))))) .unit))) .unit))))))) w [.slice a0 len0 cap0] e0) (w1 : (Lit.int .u16 a1).wf = true) (w2 : (Lit.int .u8 a2).wf = true) (w3 : IsRow .u8 w a3 len3 cap3 z3) (hg : w.cell? ⟨0, 0, none⟩ = some (.iface 94 (.agg #[.pointer (some ⟨1, 45, none⟩)]))) :
    Calls Tryd.prog 3 #[.slice a0 len0 cap0, .int .u16 a1, .int .u8 a2, .slice a3 len3 cap3] w fun e w' => e = .returned (.bool true) ∧ Below w.heap.size w w' := by
  exact turn_walk _ _ _ _ a1 a2 _ _ _ _ (by simpa [Lit.wf, IntKind.min, IntKind.max, IntKind.signed, IntKind.bits] using w1) (by simpa [Lit.wf, IntKind.min, IntKind.max, IntKind.signed, IntKind.bits] using w2) w (eventsC_of w0) w3.row w3.bytes hg

set_option maxRecDepth 100000 in
theorem lifted (os : Os) (started : os.Started) (H : Type) (enc : TypeId × Value → H) :
    ReturnsInHanded {} Tryd.checked os 3 .any (fun w args => (Rows.wireTurnedSpec.pre enc Tryd.prog Tryd.f3 [] false w args ∧ laidMetH Tryd.prog laid w) ∧ sizedMet enc Tryd.prog Tryd.f3 (OpenSpec.ofChange Rows.wireTurnedSpec) false w args)
      (Rows.wireTurnedSpec.post enc Tryd.prog Tryd.f3 false true false false) := by
  refine returnsInHanded_of_change_and (C := Tryd.checked) (X := fun w _ => laidMetH Tryd.prog laid w) (fun _ _ _ hh h => h.of_heap hh) own started (by kernel_rfl) Tryd.func3
    (ChangeSpec.witness_at (enc := enc) (C := Tryd.checked) (os := os) (X := fun w _ => laidMetH Tryd.prog laid w) false (laidWorld os) #[.slice none 0 0, .int .u16 0, .int .u8 0, .slice none 0 0] 8 rfl (by kernel_rfl) (by kernel_rfl) (by kernel_rfl) (by kernel_rfl) (by kernel_rfl) (laidWorld_met os _)) ?_
  intro W base args ds gs before hval0 hW _ _ hL _
  have hg := handle_of_laid hL
  have hval : ∀ (j : Nat) t v, Tryd.f3.params[j]? = some t → args[j]? = some v → Value.okWide Tryd.prog W .any base t v := hval0
  have hW' := hW
  obtain ⟨p, q, hA0, hV, rfl, hfz, hnd⟩ := hW
  have hA : DataW.TrodAll enc Tryd.prog W 0 (fun _ => true) true Tryd.f3.params.toList args.toList ds p := hA0
  rw [Tryd.params3] at hA hval
  obtain ⟨v0, vs0, d0, ds0, p0, q0, hargs, rfl, rfl, h0, r0⟩ := trodAll_cons hA
  obtain ⟨v1, vs1, d1, ds1, p1, q1, rfl, rfl, rfl, h1, r1⟩ := trodAll_cons r0
  obtain ⟨v2, vs2, d2, ds2, p2, q2, rfl, rfl, rfl, h2, r2⟩ := trodAll_cons r1
  obtain ⟨v3, vs3, d3, ds3, p3, q3, rfl, rfl, rfl, h3, r3⟩ := trodAll_cons r2
  obtain ⟨rfl, rfl, rfl⟩ := trodAll_nil r3
  obtain rfl : args = #[v0, v1, v2, v3] := by cases args; simp_all
  obtain ⟨rfl, rfl⟩ := trodVars_none hV
  obtain ⟨a0, len0, cap0, rfl⟩ := okWide_slice Tryd.underlying22 (hval 0 22 v0 rfl rfl)
  have k0 := h0
  have lt0 : ∀ x ∈ p0, x.block < W.heap.size := by obtain ⟨m, hm⟩ := k0; exact DataW.trod_lt m _ _ _ hm
  obtain ⟨fuel0, hf0⟩ := h0
  simp only [Value.cells] at hf0
  obtain ⟨e0, w0⟩ := (Sh.read _).1 _ _ _ _ has22 hf0
  obtain ⟨a1, rfl, rfl, rfl, w1⟩ := open_int Tryd.underlying23 (hval 1 23 v1 rfl rfl) h1
  obtain ⟨a2, rfl, rfl, rfl, w2⟩ := open_int Tryd.underlying5 (hval 2 5 v2 rfl rfl) h2
  obtain ⟨a3, len3, cap3, rfl⟩ := okWide_slice Tryd.underlying24 (hval 3 24 v3 rfl rfl)
  have k3 := h3
  have lt3 : ∀ x ∈ p3, x.block < W.heap.size := by obtain ⟨m, hm⟩ := k3; exact DataW.trod_lt m _ _ _ hm
  obtain ⟨z3, w3⟩ : ∃ zs, IsRow .u8 W a3 len3 cap3 zs := by
    obtain ⟨fuel, hf⟩ := h3
    rcases open_ints Tryd.underlying24 Tryd.underlying5 (by kernel_rfl) hf with ⟨hcs, _⟩ | ⟨x, l, c, zs, hcs, _, hl, hm, hz, _, hcell, hwz⟩
    · simp [Value.cells] at hcs
      obtain ⟨rfl, rfl, rfl⟩ := hcs
      exact ⟨[], .inl ⟨rfl, rfl, rfl, rfl⟩⟩
    · simp [Value.cells] at hcs
      obtain ⟨rfl, rfl, rfl⟩ := hcs
      exact ⟨zs, .inr ⟨_, rfl, hl, hm, by simpa using hz, hcell, hwz⟩⟩
  clear hA0 hval0
  refine (walk a0 len0 cap0 e0 a1 a2 a3 len3 cap3 z3 W w0 w1 w2 w3 hg).mono fun e W' ⟨he, bel⟩ => ?_
  subst he
  exact ⟨_, rfl, _, _, _, [], _, [], hW', trodAll_mk1 (shut_bool Tryd.underlying4 _), (trodAll_cons_mk (Below.trod laidOut (by kernel_rfl) (of_decide_eq_true (by kernel_rfl)) k0 bel lt0) (trodAll_cons_mk (shut_int Tryd.underlying23 w1) (trodAll_cons_mk (shut_int Tryd.underlying5 w2) (trodAll_cons_mk (Below.trod laidOut (by kernel_rfl) (of_decide_eq_true (by kernel_rfl)) k3 bel lt3) trodAll_mk0)))), rfl, bel.frame _, fun h => by cases h⟩

theorem over : Rows.WireTurnedSaid :=
  OpenClaim.holds_of_wide 3 Tryd.f3 rfl rfl rfl rfl rfl rfl rfl ⟨rfl, rfl, rfl, rfl, rfl⟩ rfl rfl rfl rfl rfl (by kernel_rfl) Tryd.func3 (by kernel_rfl)
    (of_decide_eq_true (by kernel_rfl)) (by unfold Func.isWrapper; rw [if_neg (of_decide_eq_false (by kernel_rfl))]; exact ⟨rfl, rfl⟩)
    (fun os started H enc _ => lifted os started H enc)

theorem proved : Rows.WireTurnedCardSaid :=
  Claim7.holds_tied_plain_at .later [] [.handle] true (true, "52a1153c671d23b7c74dbb54c357a386d051035f220dc436ef340fb331ab4ad6") true
    over (fun _ h => by cases h) (by kernel_rfl) (fun _ h => by cases h) wireTurned_row_tie rfl ⟨rfl, rfl⟩ (by kernel_rfl) rfl
    (fun f fn hf hfn => by
      obtain rfl : f = 3 := Option.some.inj ((show Tryd.prog.funcNamed "psephos/psephoslaw04.WireTurned" = some 3 by kernel_rfl).symm.trans hf) |>.symm
      obtain rfl : fn = Tryd.f3 := (Option.some.inj (Tryd.func3.symm.trans hfn)).symm
      exact ⟨by kernel_rfl, fun j t ht => by
        rw [Tryd.params3] at ht
        have h3 : t ∈ [22, 23, 5, 24] := by
          have := List.mem_of_getElem? (l := [22, 23, 5, 24]) (i := j) (by simpa using ht)
          exact this
        simp only [List.mem_cons, List.not_mem_nil, or_false] at h3
        rcases h3 with rfl | rfl | rfl | rfl
        · exact (show Tryd.prog.wantsStandIn 22 = false by kernel_rfl)
        · exact (show Tryd.prog.wantsStandIn 23 = false by kernel_rfl)
        · exact (show Tryd.prog.wantsStandIn 5 = false by kernel_rfl)
        · exact (show Tryd.prog.wantsStandIn 24 = false by kernel_rfl)⟩)
    (by kernel_rfl)
end Go.Proofs.YtpmldjcfmclkkaaDoor.wireTurnedCard

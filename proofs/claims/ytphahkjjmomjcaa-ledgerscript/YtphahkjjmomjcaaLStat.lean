/- The two states of LedgerScript, the ledger's and the law's own, each in its variable. -/
import Derived.Test.YtphahkjjmomjcaaLAdv

import Derived.Test.YtphahkjjmomjcaaLCnt

import Derived.Test.YtphahkjjmomjcaaLLCnt3

import Derived.Test.YtphahkjjmomjcaaLSMath

import Derived.Test.YtphahkjjmomjcaaLActs

import Derived.Test.YtphahkjjmomjcaaLFix

namespace Go.Proofs.Ytphahkjjmomjcaa

open Go.ChangeShapes Go.WideShapes Go.ChangeAt Go.RowKit

set_option linter.unusedVariables false

theorem step_load_at {P : Program} {ops : Array Oper} {op : Oper} {a : Act} {w : World} {K : Act → World → Prop} {Q : Exit → Act → World → Prop} {E : Prop} (ty : TypeId) (x : Operand) (ho : op.op = .load ty x) (hgd : op.guard = none)
    (vx : Value) (hx : a.eval x = vx) (r : Value) (hrun : (Instr.loadAt ty vx).run P w = .ok r w)
    (h : K (a.put op.dst r) w) : if Region.wanted op (yielded ops a.tmps) = true then Oper.wp P op a w K Q else E := by
  have hw : Region.wanted op (yielded ops a.tmps) = true := by simp [Region.wanted, hgd]
  rw [if_pos hw]
  unfold Oper.wp execOp
  simp only [ho, hx, Sem.run_bind, Result.andThen_ok, hrun]
  exact h
/-- a row is in neither variable -/
def Off (gs gw : Nat) (b : Option Addr) : Prop := ∀ g off, b = some ⟨g, off, none⟩ → g ≠ gs ∧ g ≠ gw
/-- a row is new since then -/
def New (w : World) (b : Option Addr) : Prop := ∀ g off, b = some ⟨g, off, none⟩ → w.heap.size ≤ g
structure L2 (B n gs gw : Nat) (T U : LS) (b1 : Option Addr) (d1 : Nat) (b2 : Option Addr) (d2 : Nat) (b3 : Option Addr) (d3 : Nat) (b4 : Option Addr) (d4 : Nat) (w : World) : Prop where
  s : OAt w gs (lobj T.j T.e b1 n d1 b2 n d2)
  s1 : RowB w b1 n d1 T.bf
  s2 : RowB w b2 n d2 T.nw
  t : OAt w gw (lobj U.j U.e b3 n d3 b4 n d4)
  t1 : RowB w b3 n d3 U.bf
  t2 : RowB w b4 n d4 U.nw
  ne : gs ≠ gw
  bs : B ≤ gs
  bw : B ≤ gw
  o1 : Off gs gw b1
  o2 : Off gs gw b2
  o3 : Off gs gw b3
  o4 : Off gs gw b4
variable {B n gs gw : Nat} {T U : LS} {b1 : Option Addr} {d1 : Nat} {b2 : Option Addr} {d2 : Nat} {b3 : Option Addr} {d3 : Nat} {b4 : Option Addr} {d4 : Nat} {w w' : World}
theorem L2.below (h : L2 B n gs gw T U b1 d1 b2 d2 b3 d3 b4 d4 w) (k : Below w.heap.size w w') : L2 B n gs gw T U b1 d1 b2 d2 b3 d3 b4 d4 w' :=
  ⟨h.s.below k, h.s1.below k, h.s2.below k, h.t.below k, h.t1.below k, h.t2.below k, h.ne, h.bs, h.bw, h.o1, h.o2, h.o3, h.o4⟩
/-- another block turns -/
theorem L2.apart {r : Nat} (h : L2 B n gs gw T U b1 d1 b2 d2 b3 d3 b4 d4 w) (k : Apart r w w') (h1 : gs ≠ r) (h2 : gw ≠ r) (f1 : ∀ g off, b1 = some ⟨g, off, none⟩ → g ≠ r) (f2 : ∀ g off, b2 = some ⟨g, off, none⟩ → g ≠ r) (f3 : ∀ g off, b3 = some ⟨g, off, none⟩ → g ≠ r) (f4 : ∀ g off, b4 = some ⟨g, off, none⟩ → g ≠ r) : L2 B n gs gw T U b1 d1 b2 d2 b3 d3 b4 d4 w' :=
  ⟨h.s.apart k h1, h.s1.aside k f1, h.s2.aside k f2, h.t.apart k h2, h.t1.aside k f3, h.t2.aside k f4, h.ne, h.bs, h.bw, h.o1, h.o2, h.o3, h.o4⟩
theorem L2.loadS (h : L2 B n gs gw T U b1 d1 b2 d2 b3 d3 b4 d4 w) : (Instr.loadAt 66 (.pointer (some ⟨gs, 0, none⟩))).run Try.prog w = .ok (.agg (lcells T.j T.e b1 n d1 b2 n d2)) w := load_obj Try.underlying66 infoLS rfl h.s.at_
theorem L2.loadT (h : L2 B n gs gw T U b1 d1 b2 d2 b3 d3 b4 d4 w) : (Instr.loadAt 66 (.pointer (some ⟨gw, 0, none⟩))).run Try.prog w = .ok (.agg (lcells U.j U.e b3 n d3 b4 n d4)) w := load_obj Try.underlying66 infoLS rfl h.t.at_
theorem New.off {b : Option Addr} (h : New w b) (h1 : gs < w.heap.size) (h2 : gw < w.heap.size) : Off gs gw b := fun g off e => by
  have := h g off e
  omega
/-- what comes is laid into the ledger's variable -/
theorem L2.putS (h : L2 B n gs gw T U b1 d1 b2 d2 b3 d3 b4 d4 w) {V : LS} {c1 : Option Addr} {e1 : Nat} {c2 : Option Addr} {e2 : Nat} (r1 : RowB w c1 n e1 V.bf) (r2 : RowB w c2 n e2 V.nw) (f1 : Off gs gw c1) (f2 : Off gs gw c2) :
    ∃ w', (Instr.storeAt 66 (.pointer (some ⟨gs, 0, none⟩)) (.agg (lcells V.j V.e c1 n e1 c2 n e2))).run Try.prog w = .ok () w' ∧ L2 B n gs gw V U c1 e1 c2 e2 b3 d3 b4 d4 w' ∧ Apart gs w w' := by
  obtain ⟨w', hrun, ho, ha⟩ := store_obj (P := Try.prog) (ty := 66) (n := 13) (cs := (lcells V.j V.e c1 n e1 c2 n e2).toList) infoLS rfl rfl (lcells_one _ _ _ _ _ _ _ _) h.s.at_
  exact ⟨w', hrun, ⟨OAt.of ho, r1.aside ha (fun g off e => (f1 g off e).1), r2.aside ha (fun g off e => (f2 g off e).1), h.t.apart ha h.ne.symm, h.t1.aside ha (fun g off e => (h.o3 g off e).1), h.t2.aside ha (fun g off e => (h.o4 g off e).1), h.ne, h.bs, h.bw, f1, f2, h.o3, h.o4⟩, ha⟩
/-- what comes is laid into the law's variable -/
theorem L2.putT (h : L2 B n gs gw T U b1 d1 b2 d2 b3 d3 b4 d4 w) {V : LS} {c1 : Option Addr} {e1 : Nat} {c2 : Option Addr} {e2 : Nat} (r1 : RowB w c1 n e1 V.bf) (r2 : RowB w c2 n e2 V.nw) (f1 : Off gs gw c1) (f2 : Off gs gw c2) :
    ∃ w', (Instr.storeAt 66 (.pointer (some ⟨gw, 0, none⟩)) (.agg (lcells V.j V.e c1 n e1 c2 n e2))).run Try.prog w = .ok () w' ∧ L2 B n gs gw T V b1 d1 b2 d2 c1 e1 c2 e2 w' ∧ Apart gw w w' := by
  obtain ⟨w', hrun, ho, ha⟩ := store_obj (P := Try.prog) (ty := 66) (n := 13) (cs := (lcells V.j V.e c1 n e1 c2 n e2).toList) infoLS rfl rfl (lcells_one _ _ _ _ _ _ _ _) h.t.at_
  exact ⟨w', hrun, ⟨h.s.apart ha h.ne, h.s1.aside ha (fun g off e => (h.o1 g off e).2), h.s2.aside ha (fun g off e => (h.o2 g off e).2), OAt.of ho, r1.aside ha (fun g off e => (f1 g off e).2), r2.aside ha (fun g off e => (f2 g off e).2), h.ne, h.bs, h.bw, h.o1, h.o2, f1, f2⟩, ha⟩
/-- what stands ahead of both stays -/
theorem L2.old (h : L2 B n gs gw T U b1 d1 b2 d2 b3 d3 b4 d4 w) (hB : B ≤ w.heap.size) : (Apart gs w w' → Below B w w') ∧ (Apart gw w w' → Below B w w') := ⟨fun k => k.old B hB h.bs, fun k => k.old B hB h.bw⟩
theorem made_row {g : Nat} (h : OAt w g (.cells (madeCells #[Value.bool false] n) 4)) (hn : n ≤ maxLen) : RowB w (some ⟨g, 0, none⟩) n n (List.replicate n false) := by
  rw [made_bools] at h
  exact RowB.obj h (by simp) hn
/-- both states, and a vote in its variable -/
structure LV (W1 : World) (n gs gw : Nat) (T U : LS) (b1 : Option Addr) (d1 : Nat) (b2 : Option Addr) (d2 : Nat) (b3 : Option Addr) (d3 : Nat) (b4 : Option Addr) (d4 : Nat) (hv : Nat) (av : Option Addr) (l dv : Nat) (wl : List Int) (vs vh se sr te tr : Int) (w : World) : Prop where
  two : L2 W1.heap.size n gs gw T U b1 d1 b2 d2 b3 d3 b4 d4 w
  v : OAt w hv (vobj vs vh se sr te tr av l dv)
  r : RowIn .i64 w av l dv wl
  b : Below W1.heap.size W1 w
  hW : W1.heap.size ≤ hv
  ns : gs ≠ hv
  nw : gw ≠ hv
  f1 : ∀ g off, b1 = some ⟨g, off, none⟩ → g ≠ hv
  f2 : ∀ g off, b2 = some ⟨g, off, none⟩ → g ≠ hv
  f3 : ∀ g off, b3 = some ⟨g, off, none⟩ → g ≠ hv
  f4 : ∀ g off, b4 = some ⟨g, off, none⟩ → g ≠ hv
  fv : ∀ g off, av = some ⟨g, off, none⟩ → g ≠ hv
section

variable {W1 : World} {hv : Nat} {av : Option Addr} {l dv : Nat} {wl : List Int} {vs vh se sr te tr : Int}
theorem LV.below (h : LV W1 n gs gw T U b1 d1 b2 d2 b3 d3 b4 d4 hv av l dv wl vs vh se sr te tr w) (k : Below w.heap.size w w') : LV W1 n gs gw T U b1 d1 b2 d2 b3 d3 b4 d4 hv av l dv wl vs vh se sr te tr w' :=
  ⟨h.two.below k, h.v.below k, h.r.below k, h.b.trans (k.mono h.b.size), h.hW, h.ns, h.nw, h.f1, h.f2, h.f3, h.f4, h.fv⟩
theorem LV.turn (h : LV W1 n gs gw T U b1 d1 b2 d2 b3 d3 b4 d4 hv av l dv wl vs vh se sr te tr w) (k : Apart hv w w') {vs' vh' se' sr' te' tr' : Int} (ho : OAt w' hv (vobj vs' vh' se' sr' te' tr' av l dv)) : LV W1 n gs gw T U b1 d1 b2 d2 b3 d3 b4 d4 hv av l dv wl vs' vh' se' sr' te' tr' w' :=
  ⟨h.two.apart k h.ns h.nw h.f1 h.f2 h.f3 h.f4, ho, h.r.aside k h.fv, h.b.trans (k.old _ h.b.size h.hW), h.hW, h.ns, h.nw, h.f1, h.f2, h.f3, h.f4, h.fv⟩
theorem LV.set0 (h : LV W1 n gs gw T U b1 d1 b2 d2 b3 d3 b4 d4 hv av l dv wl vs vh se sr te tr w) (x : Int) : LV W1 n gs gw T U b1 d1 b2 d2 b3 d3 b4 d4 hv av l dv wl x vh se sr te tr (w.setCell ⟨hv, 0, none⟩ (.int .i64 x)) :=
  h.turn ((Apart.refl hv w).set 0 _) (h.v.set 0 (.int .i64 x))
theorem LV.set23 (h : LV W1 n gs gw T U b1 d1 b2 d2 b3 d3 b4 d4 hv av l dv wl vs vh se sr te tr w) (x y : Int) : LV W1 n gs gw T U b1 d1 b2 d2 b3 d3 b4 d4 hv av l dv wl vs vh x y te tr ((w.setCell ⟨hv, 2, none⟩ (.int .i64 x)).setCell ⟨hv, 3, none⟩ (.int .u64 y)) :=
  h.turn (((Apart.refl hv w).set 2 _).set 3 _) ((h.v.set 2 (.int .i64 x)).set 3 (.int .u64 y))
theorem LV.set45 (h : LV W1 n gs gw T U b1 d1 b2 d2 b3 d3 b4 d4 hv av l dv wl vs vh se sr te tr w) (x y : Int) : LV W1 n gs gw T U b1 d1 b2 d2 b3 d3 b4 d4 hv av l dv wl vs vh se sr x y ((w.setCell ⟨hv, 4, none⟩ (.int .i64 x)).setCell ⟨hv, 5, none⟩ (.int .u64 y)) :=
  h.turn (((Apart.refl hv w).set 4 _).set 5 _) ((h.v.set 4 (.int .i64 x)).set 5 (.int .u64 y))
end
/-- a deed's vote, loaded -/
theorem act_vote {h : Nat} {x0 x1 : Int} {v : Vt} {ao : Option Addr} {l c : Nat} (hh : OAt w h (sobj x0 x1 v ao l c)) : (Instr.loadAt 70 (.pointer (some ⟨h, 2, none⟩))).run Try.prog w = .ok (.agg (vcells v.slot v.head v.sE v.sR v.tE v.tR ao l c)) w := by
  have := load_mid (P := Try.prog) (w := w) (b := h) (o := 2) (n := 7) (cs := (vcells v.slot v.head v.sE v.sR v.tE v.tR ao l c).toList) Try.underlying70 infoVO rfl (fun j hj => by
    rw [hh.cell, List.getElem?_toArray, Nat.add_comm]
    rfl)
  simpa using this
theorem cntS_ep (n : Nat) (s : Int) (f : Int → Int) (S : LS) (v : VV) : (cntS n s f S v).e = S.e := by
  unfold cntS
  split
  · split <;> rfl
  · rfl
/-- 'some rows', hidden -/
def L3 (B n gs gw : Nat) (T U : LS) (w : World) : Prop := ∃ b1 d1 b2 d2 b3 d3 b4 d4, L2 B n gs gw T U b1 d1 b2 d2 b3 d3 b4 d4 w
end Go.Proofs.Ytphahkjjmomjcaa

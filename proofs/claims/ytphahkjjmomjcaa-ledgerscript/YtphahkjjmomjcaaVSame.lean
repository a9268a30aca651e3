/- Votes that lie in memory; contract of vote.Same. -/
import Derived.Test.YtphahkjjmomjcaaOctMath

import Derived.Test.YtphahkjjmomjcaaProg

import Derived.WalkKit

import Derived.ProofKit

import Derived.WalkSmall

namespace Go.Proofs.Ytphahkjjmomjcaa

open Go.ChangeShapes Go.WideShapes Go.ChangeAt Go.RowKit

set_option linter.unusedVariables false

/-- a vote, as it is handed over, and as it is laid -/
abbrev vcells (s h se sr te tr : Int) (a : Option Addr) (l c : Nat) : Array Value := #[.int .i64 s, .int .u64 h, .int .i64 se, .int .u64 sr, .int .i64 te, .int .u64 tr, .slice a l c]
abbrev vobj (s h se sr te tr : Int) (a : Option Addr) (l c : Nat) : Obj := .cells (vcells s h se sr te tr a l c) 70

theorem infoI : (Try.prog.info? 3).map (fun i => (i.zero, i.size, i.bytes)) = some (some (.int .i64 0), 1, 8) := by kernel_rfl

def sameB (s h se sr te tr s2 h2 se2 sr2 te2 tr2 : Int) : Bool := decide (s = s2 ∧ h = h2 ∧ (se = se2 ∧ sr = sr2) ∧ te = te2 ∧ tr = tr2)

structure VAt (w : World) (b : Nat) (s h se sr te tr : Int) (a : Option Addr) (l c : Nat) : Prop where
  lt : b < w.heap.size
  c0 : w.cell? ⟨b, 0, none⟩ = some (.int .i64 s)
  c1 : w.cell? ⟨b, 1, none⟩ = some (.int .u64 h)
  c2 : w.cell? ⟨b, 2, none⟩ = some (.int .i64 se)
  c3 : w.cell? ⟨b, 3, none⟩ = some (.int .u64 sr)
  c4 : w.cell? ⟨b, 4, none⟩ = some (.int .i64 te)
  c5 : w.cell? ⟨b, 5, none⟩ = some (.int .u64 tr)
  c6 : w.cell? ⟨b, 6, none⟩ = some (.slice a l c)
theorem VAt.below {w w' : World} {b : Nat} {s h se sr te tr : Int} {a : Option Addr} {l c : Nat} (hv : VAt w b s h se sr te tr a l c) (hb : Below w.heap.size w w') : VAt w' b s h se sr te tr a l c := by
  have hc : ∀ i, w'.cell? ⟨b, i, none⟩ = w.cell? ⟨b, i, none⟩ := fun i => hb.cell (p := ⟨b, i, none⟩) hv.lt
  exact ⟨Nat.lt_of_lt_of_le hv.lt hb.size, by rw [hc]; exact hv.c0, by rw [hc]; exact hv.c1, by rw [hc]; exact hv.c2, by rw [hc]; exact hv.c3, by rw [hc]; exact hv.c4, by rw [hc]; exact hv.c5, by rw [hc]; exact hv.c6⟩
theorem VAt.alloc {w : World} {b : Nat} {s h se sr te tr : Int} {a : Option Addr} {l c : Nat} (hv : VAt w b s h se sr te tr a l c) (o : Obj) : VAt (w.alloc o) b s h se sr te tr a l c :=
  hv.below ((Below.refl _ _).alloc (Nat.le_refl _) o)
theorem VAt.lit (w : World) (b : Nat) (hb : b = w.heap.size) (s h se sr te tr : Int) (a : Option Addr) (l c : Nat) : VAt (w.alloc (vobj s h se sr te tr a l c)) b s h se sr te tr a l c := by
  subst hb
  constructor <;> simp [go_sem]

theorem VAt.drew {w : World} {b : Nat} {s h se sr te tr : Int} {a : Option Addr} {l c : Nat} (hv : VAt w b s h se sr te tr a l c) : VAt w.drew b s h se sr te tr a l c := hv.below (Below.refl _ _).drew
theorem sameB_comm (s h se sr te tr s2 h2 se2 sr2 te2 tr2 : Int) : sameB s h se sr te tr s2 h2 se2 sr2 te2 tr2 = sameB s2 h2 se2 sr2 te2 tr2 s h se sr te tr := by
  unfold sameB
  exact decide_eq_decide.2 ⟨fun ⟨a, b, ⟨c, d⟩, e, f⟩ => ⟨a.symm, b.symm, ⟨c.symm, d.symm⟩, e.symm, f.symm⟩, fun ⟨a, b, ⟨c, d⟩, e, f⟩ => ⟨a.symm, b.symm, ⟨c.symm, d.symm⟩, e.symm, f.symm⟩⟩
theorem sameB_self (s h se sr te tr : Int) : sameB s h se sr te tr s h se sr te tr = true := by simp [sameB]
end Go.Proofs.Ytphahkjjmomjcaa

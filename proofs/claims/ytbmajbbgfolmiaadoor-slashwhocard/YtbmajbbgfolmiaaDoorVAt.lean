/- Votes and configurations that lie in memory, and stay there. -/
import Derived.Test.YtbmajbbgfolmiaaDoorVAwake

import Derived.Test.YtbmajbbgfolmiaaDoorObjs

namespace Go.Proofs.YtbmajbbgfolmiaaDoor

open Go.ChangeShapes Go.WideShapes Go.ChangeAt Go.RowKit

set_option linter.unusedVariables false

structure CAt (w : World) (b : Nat) (a : Option Addr) (l c : Nat) (s t : Int) : Prop where
  lt : b < w.heap.size
  c0 : w.cell? ⟨b, 0, none⟩ = some (.slice a l c)
  c1 : w.cell? ⟨b, 1, none⟩ = some (.int .i64 s)
  c2 : w.cell? ⟨b, 2, none⟩ = some (.int .i64 t)
theorem CAt.below {w w' : World} {b : Nat} {s t : Int} {a : Option Addr} {l c : Nat} (hv : CAt w b a l c s t) (hb : Below w.heap.size w w') : CAt w' b a l c s t := by
  have hc : ∀ i, w'.cell? ⟨b, i, none⟩ = w.cell? ⟨b, i, none⟩ := fun i => hb.cell (p := ⟨b, i, none⟩) hv.lt
  exact ⟨Nat.lt_of_lt_of_le hv.lt hb.size, by rw [hc]; exact hv.c0, by rw [hc]; exact hv.c1, by rw [hc]; exact hv.c2⟩
theorem CAt.alloc {w : World} {b : Nat} {s t : Int} {a : Option Addr} {l c : Nat} (hv : CAt w b a l c s t) (o : Obj) : CAt (w.alloc o) b a l c s t :=
  hv.below ((Below.refl _ _).alloc (Nat.le_refl _) o)
theorem CAt.lit (w : World) (b : Nat) (hb : b = w.heap.size) (a : Option Addr) (l c : Nat) (s t : Int) : CAt (w.alloc (cfg a l c s t)) b a l c s t := by
  subst hb
  constructor <;> simp [go_sem]

theorem wf8 {a : Int} (h : (Lit.int .u8 a).wf = true) : 0 ≤ a ∧ a ≤ 255 := by
  simpa [Lit.wf, IntKind.min, IntKind.max, IntKind.signed, IntKind.bits] using h
theorem RowIn.drew {k : IntKind} {w : World} {ao : Option Addr} {n c : Nat} {zs : List Int} (h : RowIn k w ao n c zs) : RowIn k w.drew ao n c zs := h.below (Below.refl _ _).drew
theorem CAt.drew {w : World} {b : Nat} {s t : Int} {a : Option Addr} {l c : Nat} (hv : CAt w b a l c s t) : CAt w.drew b a l c s t := hv.below (Below.refl _ _).drew
theorem CAt.apart {w w' : World} {b r : Nat} {s t : Int} {a : Option Addr} {l c : Nat} (hv : CAt w b a l c s t) (k : Apart r w w') (hr : b ≠ r) : CAt w' b a l c s t := by
  have hc : ∀ i, w'.cell? ⟨b, i, none⟩ = w.cell? ⟨b, i, none⟩ := fun i => World.cell?_of_block (a := ⟨b, i, none⟩) (k.block b hv.lt hr)
  exact ⟨Nat.lt_of_lt_of_le hv.lt k.size, by rw [hc]; exact hv.c0, by rw [hc]; exact hv.c1, by rw [hc]; exact hv.c2⟩
theorem OAt.vat {w : World} {b : Nat} {s h se sr te tr : Int} {a : Option Addr} {l c : Nat} (ho : OAt w b (vobj s h se sr te tr a l c)) : VAt w b s h se sr te tr a l c :=
  ⟨ho.lt, ho.cell 0, ho.cell 1, ho.cell 2, ho.cell 3, ho.cell 4, ho.cell 5, ho.cell 6⟩
theorem infoVt7 : (Tryd.prog.info? 30).map (·.size) = some 7 := by kernel_rfl
theorem vcells_one (s h se sr te tr : Int) (a : Option Addr) (l c : Nat) : ∀ v ∈ (vcells s h se sr te tr a l c).toList, v.oneCell' = true := by simp [Value.oneCell']
/-- a vote is stored into a variable -/
theorem store_vote {w : World} {b : Nat} {C : Array Value} (hC : C.size = 7) (ho : OAt w b (.cells C 30)) (s h se sr te tr : Int) (a : Option Addr) (l c : Nat) :
    ∃ w', (Instr.storeAt 30 (.pointer (some ⟨b, 0, none⟩)) (.agg (vcells s h se sr te tr a l c))).run Tryd.prog w = .ok () w' ∧ OAt w' b (vobj s h se sr te tr a l c) ∧ Apart b w w' := by
  obtain ⟨w', h1, h2, h3⟩ := store_obj (P := Tryd.prog) (cs := (vcells s h se sr te tr a l c).toList) infoVt7 rfl hC (vcells_one _ _ _ _ _ _ _ _ _) ho.at_
  exact ⟨w', h1, OAt.of h2, h3⟩
/-- a vote that Make makes may be -/
theorem up_of_lt (n : Int) : ∀ (l : List Int) (last : Int), l.Pairwise (· < ·) → (∀ x ∈ l, last < x ∧ x < n) → up n last l = true
  | [], _, _, _ => rfl
  | x :: l, last, hp, hx => by
    rw [List.pairwise_cons] at hp
    rw [up, decide_eq_true (hx x (by simp)), Bool.true_and]
    exact up_of_lt n l x hp.2 (fun y hy => ⟨hp.1 y hy, (hx y (by simp [hy])).2⟩)
theorem lt_of_up (n : Int) : ∀ (l : List Int) (last : Int), up n last l = true → l.Pairwise (· < ·) ∧ ∀ x ∈ l, last < x ∧ x < n
  | [], _, _ => ⟨List.Pairwise.nil, by simp⟩
  | x :: l, last, h => by
    rw [up, Bool.and_eq_true, decide_eq_true_eq] at h
    obtain ⟨h1, h2⟩ := lt_of_up n l x h.2
    refine ⟨List.pairwise_cons.2 ⟨fun y hy => (h2 y hy).1, h1⟩, fun y hy => ?_⟩
    rcases List.mem_cons.1 hy with rfl | hy
    · exact h.1
    · have := h2 y hy
      omega
theorem whoB_true (who : List Int) (n : Int) : whoB who n = true ↔ who.Pairwise (· < ·) ∧ (∀ x ∈ who, 0 ≤ x ∧ x < n) ∧ 0 < who.length := by
  unfold whoB
  rw [Bool.and_eq_true, decide_eq_true_eq]
  constructor
  · intro ⟨h1, h2⟩
    obtain ⟨h3, h4⟩ := lt_of_up n who (-1) h1
    exact ⟨h3, fun x hx => by have := h4 x hx; omega, h2⟩
  · intro ⟨h1, h2, h3⟩
    exact ⟨up_of_lt n who (-1) h1 (fun x hx => by have := h2 x hx; omega), h3⟩
theorem whoB_mvW (n : Nat) (zs : List Int) (hn : 1 ≤ n) : whoB (mvW n zs) n = true :=
  (whoB_true _ _).2 ⟨mvW_lt n zs, mem_mvW n zs hn, (mvW_len n zs hn).1⟩
theorem timesB_made (s se slots : Int) : timesB (s % 200) (se % (epo (s % 200) slots + 1)) (epo (s % 200) slots) slots = decide (0 ≤ epo (s % 200) slots) := by
  unfold timesB
  refine decide_eq_decide.2 ⟨fun h => by omega, fun h => ⟨by omega, Int.emod_nonneg _ (by omega), ?_, rfl⟩⟩
  have := Int.emod_lt_of_pos se (show 0 < epo (s % 200) slots + 1 by omega)
  omega
theorem epo_made (s slots : Int) (hS : 1 ≤ slots ∧ slots ≤ 64) : 0 ≤ epo (s % 200) slots ∧ epo (s % 200) slots < 200 := by
  rw [epo, lo0, if_neg (by omega), lo1, if_neg (by omega)]
  have h : 0 ≤ s % 200 ∧ s % 200 < 200 := by omega
  exact ⟨Int.ediv_nonneg h.1 (by omega), Int.lt_of_le_of_lt (Int.ediv_le_self _ h.1) h.2⟩
end Go.Proofs.YtbmajbbgfolmiaaDoor

/- What layer 12's laws hold on their way: a configuration, a tree and its model, last votes. -/
import Derived.Test.YtfkabmgbcdoijaaGOf

import Derived.Test.YtfkabmgbcdoijaaNdMade

import Derived.Test.YtfkabmgbcdoijaaCfMake

import Derived.Test.YtfkabmgbcdoijaaShapes

namespace Go.Proofs.Ytfkabmgbcdoijaa

open Go.ChangeShapes Go.WideShapes Go.ChangeAt Go.RowKit

set_option linter.unusedVariables false

theorem IsRow.u8 {w : World} {a : Option Addr} {len cap : Nat} {zs : List Int} (h : IsRow .u8 w a len cap zs) : ∀ z ∈ zs.take len, 0 ≤ z ∧ z ≤ 255 := fun z hz => wf_u8e (h.wf z hz)
/-- a row of bools that came in -/
def BR (w : World) (a : Option Addr) (l : Nat) : Prop := l ≤ maxLen ∧ ∀ i, i < l → ∃ b off v, a = some ⟨b, off, none⟩ ∧ b < w.heap.size ∧ w.cell? ⟨b, off + i, none⟩ = some (.bool v)
theorem BR.of {w : World} {a : Option Addr} {l c : Nat} {e : List Bool} (h : Sh.In (.slice .bool) w [.slice a l c] e) : BR w a l := by
  obtain ⟨ao, n, c', e1, h⟩ := h
  simp only [List.cons.injEq, Value.slice.injEq, and_true] at e1
  obtain ⟨rfl, rfl, rfl⟩ := e1
  refine ⟨Nat.le_trans h.cap.1 h.cap.2, fun i hi => ?_⟩
  have hi' : i < e.length := Nat.lt_of_lt_of_eq hi h.len.symm
  obtain ⟨b, off, cs, e2, hlt, hl, hc, hr⟩ := h.row i hi'
  refine ⟨b, off, e[i], e2, hlt, ?_⟩
  have h0 := hc 0 (by show 0 < 1; omega)
  rw [show cs = [.bool e[i]] from hr] at h0
  rw [show off + (i * Sh.bool.size + 0) = off + i by show off + (i * 1 + 0) = off + i; omega] at h0
  exact h0
theorem BR.below {w w' : World} {a : Option Addr} {l : Nat} (h : BR w a l) (hb : Below w.heap.size w w') : BR w' a l := ⟨h.1, fun i hi => by
  obtain ⟨b, off, v, e1, hlt, hc⟩ := h.2 i hi
  exact ⟨b, off, v, e1, Nat.lt_of_lt_of_le hlt hb.size, (hb.cell (p := ⟨b, off + i, none⟩) hlt).trans hc⟩⟩
/-- what stays: the balances, slots, boost, tree, model -/
structure WC (bal : List Int) (S Bo : Int) (bs : List TBlk) (ms : List Nod) (n m i : Nat) : Prop where
  bl : bal.length = n
  n1 : 1 ≤ n
  n4 : n ≤ 4096
  bu : ∀ z ∈ bal, 0 ≤ z ∧ z ≤ 4294967296
  s1 : 1 ≤ S ∧ S ≤ 64
  b1 : 0 ≤ Bo ∧ Bo ≤ 100
  nb : Numb bs i
  i3 : i ≤ 30
  mo : MOf bs ms
  ml : ms.length = m
theorem WC.mi {bal : List Int} {S Bo : Int} {bs : List TBlk} {ms : List Nod} {n m i : Nat} (k : WC bal S Bo bs ms n m i) : m = i + 1 := by rw [← k.ml, k.mo.len, k.nb.len]
variable {B : Nat} {bal : List Int} {S Bo : Int} {p : Nat} {bs : List TBlk} {a : Option Addr} {m c : Nat} {ms : List Nod} {es : List Ent} {x : Nat} {ao : Option Addr} {n d g i : Nat} {w w' : World}
theorem MdAt.apart {K : Nat → Prop} {sv : Value} (h : MdAt B K p bs sv ms w) (k : Apart g w w') (hg : K g) : MdAt B K p bs sv ms w' := by
  obtain ⟨F, h1, h2, h3, h4⟩ := h
  have hs := k.size
  refine ⟨F, h1.turn (Turn.apart k) (fun i hi e => (h2 i hi).2.2.1 (by rw [e]; exact hg)), fun i hi => ⟨(h2 i hi).1, by have := (h2 i hi).2.1; omega, (h2 i hi).2.2⟩, ?_, fun i hi => ⟨by have := (h4 i hi).1; omega, (h4 i hi).2⟩⟩
  obtain ⟨css, hc, ho⟩ := h3
  exact ⟨css, hc, owns_turn ho (Turn.apart k) (fun b hb e => (h4 g hg).2 (by rw [← e]; exact hb))⟩
/-- what a call leaves -/
def Kept (w : World) (v : Value) (e : Ending) (w' : World) : Prop := e = .returned v ∧ Below w.heap.size w w'
theorem WC.zero (k : WC bal S Bo bs ms n m i) (r : Int) : belowB bs 0 r = false := by
  unfold belowB
  rw [k.nb.new (x := 0) (by omega)]
theorem wV_new (k : WC bal S Bo bs ms n m i) (r : Int) (hf : Fresh es 0) : wV bs es bal S Bo 0 r = 0 := by
  unfold wV ofV
  rw [tv_new hf, k.zero]
  rfl
theorem wV_own (k : WC bal S Bo bs ms n m i) : wV bs [] bal S Bo 1 1 = bst (tot bal) S Bo := by
  unfold wV ofV
  rw [belowB_self, k.nb.has (x := 1) (by omega), show tv _ ([] : List Ent) bal = 0 from rfl]
  have := bst_b (tot bal) S Bo (tot_b bal)
  simp only [Option.isSome_some, cond_true]
  omega
theorem wV_yes (k : WC bal S Bo bs ms n m i) {bo r : Int} (h : belowB bs bo r = true) : wV bs es bal S Bo bo r = (wV bs es bal S Bo 0 r + bst (tot bal) S Bo) % 18446744073709551616 := by
  unfold wV ofV
  rw [h, k.zero]
  simp only [cond_true, cond_false]
  omega
theorem wV_no (k : WC bal S Bo bs ms n m i) {bo r : Int} (h : belowB bs bo r = false) : wV bs es bal S Bo bo r = wV bs es bal S Bo 0 r := by
  unfold wV
  rw [h, k.zero]
theorem climb_zero {bs : List TBlk} (h : TOk bs) : ∀ t, t < bs.length → climb bs 0 t = 0 := by
  intro t
  induction t using Nat.strongRecOn with
  | _ t ih =>
    intro ht
    by_cases h0 : 0 < t
    · have hp := h.par t h0 ht
      rw [climb_go h0 hp]
      exact ih _ hp (by omega)
    · rw [climb_stop h0]
      omega
theorem WC.first (k : WC bal S Bo bs ms n m i) (r : Int) : belowB bs r 1 = (idx bs r).isSome := by
  unfold belowB
  rw [show idx bs 1 = some 0 from k.nb.idx (j := 0) (by omega)]
  cases hx : idx bs r with
  | none => rfl
  | some t =>
    show decide (climb bs 0 t = 0) = true
    exact decide_eq_true (climb_zero k.nb.ok t (idx_some hx).1)
theorem wV_first (k : WC bal S Bo bs ms n m i) : wV bs es bal S Bo 0 1 = tv (fun x => (idx bs x).isSome) es bal % 18446744073709551616 := by
  unfold wV ofV
  rw [k.zero, show (fun x => belowB bs x 1) = fun x => (idx bs x).isSome from funext k.first]
  simp only [cond_false]
  omega
theorem WC.out (k : WC bal S Bo bs ms n m i) (r : Int) : belowB bs r 999 = false := by
  unfold belowB
  rw [k.nb.new (x := 999) (by have := k.i3; omega)]
  cases idx bs r <;> rfl
theorem wV_out (k : WC bal S Bo bs ms n m i) : wV bs es bal S Bo 999 999 = 0 := by
  unfold wV ofV
  rw [k.out, show (fun x => belowB bs x 999) = fun _ => false from funext k.out, tv, tvK_none _ (fun _ _ _ => rfl)]
  rfl
theorem wV_sum {bo r z : Int} (hz : z = tv (fun x => belowB bs x r) es bal % 18446744073709551616) : (belowB bs bo r = true → (z + bst (tot bal) S Bo) % 18446744073709551616 = wV bs es bal S Bo bo r) ∧ (belowB bs bo r = false → z = wV bs es bal S Bo bo r) := by
  unfold wV ofV
  refine ⟨fun h => ?_, fun h => ?_⟩
  · rw [h, hz]; simp only [cond_true]; omega
  · rw [h, hz]; simp only [cond_false]; omega
theorem one_nat (bal : List Int) (j : Nat) (h : j < bal.length) : one bal (j : Int) = bal.getD j 0 := by
  unfold one
  rw [if_pos (by omega), Int.toNat_natCast]
/-- one more vote -/
theorem tv_more (p : Int → Bool) {j : Nat} (hf : Fresh es j) (hj : j < es.length) (hb : j < bal.length) (r z : Int) (hz : z = tv p es bal % 18446744073709551616) :
    (p r = true → (z + bal.getD j 0) % 18446744073709551616 = tv p (es.set j ⟨true, 1, r, false⟩) bal % 18446744073709551616) ∧ (p r = false → z = tv p (es.set j ⟨true, 1, r, false⟩) bal % 18446744073709551616) ∧ z = tv p (es.set j ⟨true, 1, r, true⟩) bal % 18446744073709551616 := by
  refine ⟨fun h => ?_, fun h => ?_, ?_⟩
  · rw [tv_set hf hj, if_pos ⟨rfl, rfl, h⟩, one_nat bal j hb, hz]
    omega
  · rw [tv_set hf hj, if_neg (fun e => by rw [h] at e; cases e.2.2), hz]
    omega
  · rw [tv_set hf hj, if_neg (fun e => by cases e.1), hz]
    omega
theorem WC.fnd (k : WC bal S Bo bs ms n m i) (r : Int) : ((idx bs r).isSome = true → ∃ t : Nat, Go.Proofs.Ytfkabmgbcdoijaa.fnd ms r = (t : Int)) ∧ ((idx bs r).isSome = false → Go.Proofs.Ytfkabmgbcdoijaa.fnd ms r = -1) := by
  rw [k.mo.fnd]
  cases idx bs r with
  | none => exact ⟨fun h => (by cases h), fun _ => rfl⟩
  | some t => exact ⟨fun _ => ⟨t, rfl⟩, fun h => (by cases h)⟩
end Go.Proofs.Ytfkabmgbcdoijaa

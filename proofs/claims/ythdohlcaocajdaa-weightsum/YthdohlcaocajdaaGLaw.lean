/- What layer 12's laws hold on their way: a configuration, a tree and its model, last votes. -/
import Derived.Test.YthdohlcaocajdaaGOf

import Derived.Test.YthdohlcaocajdaaNdMade

import Derived.Test.YthdohlcaocajdaaCfMake

import Derived.Test.YthdohlcaocajdaaShapes

namespace Go.Proofs.Ythdohlcaocajdaa

open Go.ChangeShapes Go.WideShapes Go.ChangeAt Go.RowKit

set_option linter.unusedVariables false

theorem IsRow.u8 {w : World} {a : Option Addr} {len cap : Nat} {zs : List Int} (h : IsRow .u8 w a len cap zs) : ∀ z ∈ zs.take len, 0 ≤ z ∧ z ≤ 255 := fun z hz => wf_u8e (h.wf z hz)
/-- a row of bools that came in -/
def BR (w : World) (a : Option Addr) (l : Nat) : Prop := l ≤ maxLen ∧ ∀ i, i < l → ∃ b off v, a = some ⟨b, off, none⟩ ∧ b < w.heap.size ∧ w.cell? ⟨b, off + i, none⟩ = some (.bool v)
theorem BR.of {w : World} {a : Option Addr} {l c : Nat} {e : List Bool} (h : Sh.In (.slice .bool) w [.slice a l c] e) : BR w a l := by
  obtain ⟨ao, n, c', e1, h⟩ := h
  simp only [List.cons.injEq, Value.slice.injEq, and_true] at e1
  obtain ⟨rfl, rfl, rfl⟩ := e1
  refine ⟨Nat.le_trans h.cap.1 h.cap.2, fun i hi => ?_⟩
  have hi' : i < e.length := Nat.lt_of_lt_of_eq hi h.len.symm
  obtain ⟨b, off, cs, e2, hlt, hl, hc, hr⟩ := h.row i hi'
  refine ⟨b, off, e[i], e2, hlt, ?_⟩
  have h0 := hc 0 (by show 0 < 1; omega)
  rw [show cs = [.bool e[i]] from hr] at h0
  rw [show off + (i * Sh.bool.size + 0) = off + i by show off + (i * 1 + 0) = off + i; omega] at h0
  exact h0
theorem BR.below {w w' : World} {a : Option Addr} {l : Nat} (h : BR w a l) (hb : Below w.heap.size w w') : BR w' a l := ⟨h.1, fun i hi => by
  obtain ⟨b, off, v, e1, hlt, hc⟩ := h.2 i hi
  exact ⟨b, off, v, e1, Nat.lt_of_lt_of_le hlt hb.size, (hb.cell (p := ⟨b, off + i, none⟩) hlt).trans hc⟩⟩
/-- what stays: the balances, slots, boost, tree, model -/
structure WC (bal : List Int) (S Bo : Int) (bs : List TBlk) (ms : List Nd) (n m i : Nat) : Prop where
  bl : bal.length = n
  n1 : 1 ≤ n
  n4 : n ≤ 4096
  bu : ∀ z ∈ bal, 0 ≤ z ∧ z ≤ 4294967296
  s1 : 1 ≤ S ∧ S ≤ 64
  b1 : 0 ≤ Bo ∧ Bo ≤ 100
  nb : Numb bs i
  i3 : i ≤ 30
  mo : MOf bs ms
  ml : ms.length = m
theorem WC.mi {bal : List Int} {S Bo : Int} {bs : List TBlk} {ms : List Nd} {n m i : Nat} (k : WC bal S Bo bs ms n m i) : m = i + 1 := by rw [← k.ml, k.mo.len, k.nb.len]
/-- where it lies -/
structure WSt (B : Nat) (bal : List Int) (S Bo : Int) (p : Nat) (bs : List TBlk) (a : Option Addr) (m c : Nat) (ms : List Nd) (es : List Ent) (x : Nat) (ao : Option Addr) (n d g : Nat) (w : World) : Prop where
  cf : OAt w x (cfg ao n d S Bo)
  row : RowIn .u64 w ao n d bal
  md : MdAt B (fun i => i = g) p bs (.slice a m c) ms w
  ent : OAt w g (eobj es)
  el : es.length = n
  eu : ∀ j, U64 (entK es j).r
  far : x ≠ g
  rf : ∀ b off, ao = some ⟨b, off, none⟩ → b ≠ g
variable {B : Nat} {bal : List Int} {S Bo : Int} {p : Nat} {bs : List TBlk} {a : Option Addr} {m c : Nat} {ms : List Nd} {es : List Ent} {x : Nat} {ao : Option Addr} {n d g i : Nat} {w w' : World}
theorem WSt.below (h : WSt B bal S Bo p bs a m c ms es x ao n d g w) (k : Below w.heap.size w w') : WSt B bal S Bo p bs a m c ms es x ao n d g w' :=
  ⟨h.cf.below k, h.row.below k, h.md.below k, h.ent.below k, h.el, h.eu, h.far, h.rf⟩
theorem MdAt.apart {K : Nat → Prop} {sv : Value} (h : MdAt B K p bs sv ms w) (k : Apart g w w') (hg : K g) : MdAt B K p bs sv ms w' := by
  obtain ⟨F, h1, h2, h3, h4⟩ := h
  have hs := k.size
  refine ⟨F, h1.turn (Turn.apart k) (fun i hi e => (h2 i hi).2.2.1 (by rw [e]; exact hg)), fun i hi => ⟨(h2 i hi).1, by have := (h2 i hi).2.1; omega, (h2 i hi).2.2⟩, ?_, fun i hi => ⟨by have := (h4 i hi).1; omega, (h4 i hi).2⟩⟩
  obtain ⟨css, hc, ho⟩ := h3
  exact ⟨css, hc, owns_turn ho (Turn.apart k) (fun b hb e => (h4 g hg).2 (by rw [← e]; exact hb))⟩
theorem WSt.set (h : WSt B bal S Bo p bs a m c ms es x ao n d g w) {es' : List Ent} (ho : OAt w' g (eobj es')) (k : Apart g w w') (hl : es'.length = n) (hu : ∀ j, U64 (entK es' j).r) : WSt B bal S Bo p bs a m c ms es' x ao n d g w' :=
  ⟨h.cf.apart k h.far, h.row.aside k h.rf, h.md.apart k rfl, ho, hl, hu, h.far, h.rf⟩
theorem WSt.gu (h : WSt B bal S Bo p bs a m c ms es x ao n d g w) (k : Int) : U64 (getR es k) := by
  unfold getR
  cases getB' es k
  · show U64 0
    unfold U64; omega
  · exact h.eu _
theorem WSt.cells (h : WSt B bal S Bo p bs a m c ms es x ao n d g w) : w.cell? ⟨x, 0, none⟩ = some (.slice ao n d) ∧ w.cell? ⟨x, 1, none⟩ = some (.int .i64 S) ∧ w.cell? ⟨x, 2, none⟩ = some (.int .i64 Bo) := ⟨h.cf.cell 0, h.cf.cell 1, h.cf.cell 2⟩
/-- what a call leaves -/
def Kept (w : World) (v : Value) (e : Ending) (w' : World) : Prop := e = .returned v ∧ Below w.heap.size w w'
theorem w_of (k : WC bal S Bo bs ms n m i) {bo r : Int} (hb : U64 bo) (hr : U64 r) (w : World) (h : WSt B bal S Bo p bs a m c ms es x ao n d g w) :
    Calls Try.prog 18 #[.agg #[.slice ao n d, .int .i64 S, .int .i64 Bo], .pointer (some ⟨p, 0, none⟩), .slice (some ⟨g, 0, none⟩) n n, .int .u64 bo, .int .u64 r] w (Kept w (.int .u64 (wV bs es bal S Bo bo r))) := by
  have h1 := k.s1
  have h2 := k.b1
  exact wof_any bs _ p es _ n n bal ao n d S Bo bo r w h.md.tree k.nb.ok hb hr (fun _ => ⟨g, rfl, rfl, h.ent⟩) h.el k.n4 h.gu h.row (fun z hz => by have := k.bu z hz; omega) (by unfold I64; omega) (by unfold I64; omega)
theorem w_boost (k : WC bal S Bo bs ms n m i) (w : World) (h : WSt B bal S Bo p bs a m c ms es x ao n d g w) :
    Calls Try.prog 17 #[.agg #[.slice ao n d, .int .i64 S, .int .i64 Bo]] w (Kept w (.int .u64 (bst (tot bal) S Bo))) := by
  have h1 := k.s1
  have h2 := k.b1
  exact (boost_any bal ao n d S Bo w h.row (by omega) (by omega)).mono fun e w' ⟨he, hw⟩ => ⟨he, by rw [hw]; exact ((Below.refl _ _).alloc (Nat.le_refl _) _).alloc (by simp) _⟩
theorem WSt.nrow (h : WSt B bal S Bo p bs a m c ms es x ao n d g w) (k : WC bal S Bo bs ms n m i) : NRow w a m ms := by
  obtain ⟨a', c', e, hr⟩ := h.md.row
  simp only [Value.slice.injEq] at e
  obtain ⟨rfl, e2, rfl⟩ := e
  rw [e2]
  exact hr
theorem w_find (k : WC bal S Bo bs ms n m i) (r : Int) (w : World) (h : WSt B bal S Bo p bs a m c ms es x ao n d g w) :
    Calls Try.prog 23 #[.slice a m c, .int .u64 r] w (Kept w (.int .i64 (fnd ms r))) :=
  find_any ms a m c r w (h.nrow k) (by have := k.mi; have := k.i3; omega)
theorem w_below (k : WC bal S Bo bs ms n m i) (r o : Int) (w : World) (h : WSt B bal S Bo p bs a m c ms es x ao n d g w) :
    Calls Try.prog 16 #[.slice a m c, .int .u64 r, .int .u64 o] w (Kept w (.bool (belowB bs r o))) :=
  mbelow_any bs ms a m c r o w (h.nrow k) k.mo k.nb.ok
/-- the j-th validator votes for the first time -/
theorem w_take (k : WC bal S Bo bs ms n m i) (j : Nat) (hj : j < n) (r : Int) (hr : U64 r) (w : World) (h : WSt B bal S Bo p bs a m c ms es x ao n d g w) (hf : Fresh es j) :
    Calls Try.prog 14 #[.slice (some ⟨g, 0, none⟩) n n, .int .i64 (j : Int), .int .i64 1, .int .u64 r] w fun e w' => e = .returned (.bool true) ∧ WSt B bal S Bo p bs a m c ms (es.set j ⟨true, 1, r, false⟩) x ao n d g w' ∧ Apart g w w' := by
  have h4 := k.n4
  refine (take_any es g n (j : Int) 1 r w h.ent h.el h4 (by unfold I64e; omega) (by unfold I64e; omega)).mono ?_
  have hjl : j < es.length := by rw [h.el]; exact hj
  rintro e w' ⟨rfl, ho, hk⟩
  rw [take_fresh hf hjl] at ho
  refine ⟨?_, h.set ho hk (by rw [List.length_set]; exact h.el) (fun q => ?_), hk⟩
  · rw [take_nat es j hjl _ (hf j (Nat.le_refl _)) 1]; rfl
  · rw [entK_set _ _ _ _ hjl]
    split
    · exact hr
    · exact h.eu q
theorem w_ban (k : WC bal S Bo bs ms n m i) (j : Nat) (hj : j < n) (r : Int) (hr : U64 r) (w : World) (h : WSt B bal S Bo p bs a m c ms (es.set j ⟨true, 1, r, false⟩) x ao n d g w) :
    Calls Try.prog 15 #[.slice (some ⟨g, 0, none⟩) n n, .int .i64 (j : Int)] w fun e w' => e = .returned (.bool true) ∧ WSt B bal S Bo p bs a m c ms (es.set j ⟨true, 1, r, true⟩) x ao n d g w' ∧ Apart g w w' := by
  have h4 := k.n4
  have hel : es.length = n := by have := h.el; rwa [List.length_set] at this
  have hjl : j < es.length := by rw [hel]; exact hj
  refine (ban_any _ g n (j : Int) w h.ent h.el h4 (by unfold I64e; omega)).mono ?_
  rintro e w' ⟨rfl, ho, hk⟩
  rw [ban_taken hjl] at ho
  refine ⟨?_, h.set ho hk (by rw [List.length_set]; exact hel) (fun q => ?_), hk⟩
  · rw [ct_nat _ j (by rw [List.length_set]; exact hjl), entK_set _ _ _ _ hjl, if_pos rfl]; rfl
  · have := h.eu q
    rw [entK_set _ _ _ _ hjl] at this ⊢
    split
    · exact hr
    · rename_i hq
      rw [if_neg hq] at this
      exact this
/-- at the start -/
theorem WSt.start {w1 : World} (hc : OAt w x (cfg ao n d S Bo)) (hr : RowIn .u64 w ao n d bal) (hm : MdAt B (fun _ => False) p bs (.slice a m c) ms w) (ho : OAt w1 g (eobj (List.replicate n Ent.zero))) (hg : w.heap.size ≤ g) (hb : Below w.heap.size w w1) (hn : 1 ≤ n) :
    WSt B bal S Bo p bs a m c ms (List.replicate n Ent.zero) x ao n d g w1 :=
  ⟨hc.below hb, hr.below hb, hm.new hb (fun i hi => by subst hi; exact ⟨hg, ho.lt⟩), ho, List.length_replicate, fun j => by rw [entK_rep]; show U64 0; unfold U64; omega, by have := hc.lt; omega, fun b off e => by
    obtain ⟨b', off', e', hlt, _⟩ := hr.cell 0 (by omega)
    rw [e] at e'
    cases e'
    omega⟩
theorem w_nil (k : WC bal S Bo bs ms n m i) {bo r : Int} (hb : U64 bo) (hr : U64 r) (w : World) (h : WSt B bal S Bo p bs a m c ms es x ao n d g w) :
    Calls Try.prog 18 #[.agg #[.slice ao n d, .int .i64 S, .int .i64 Bo], .pointer (some ⟨p, 0, none⟩), .slice none 0 0, .int .u64 bo, .int .u64 r] w (Kept w (.int .u64 (wV bs [] bal S Bo bo r))) := by
  have h1 := k.s1
  have h2 := k.b1
  exact wof_any bs _ p [] none 0 0 bal ao n d S Bo bo r w h.md.tree k.nb.ok hb hr (fun h => by omega) rfl (by omega) (fun j => by
    unfold getR getB' ctB isB
    rw [decide_eq_false (by simp)]
    show U64 0
    unfold U64; omega) h.row (fun z hz => by have := k.bu z hz; omega) (by unfold I64; omega) (by unfold I64; omega)
/-! ### what is told of weights -/
theorem WC.zero (k : WC bal S Bo bs ms n m i) (r : Int) : belowB bs 0 r = false := by
  unfold belowB
  rw [k.nb.new (x := 0) (by omega)]
theorem wV_new (k : WC bal S Bo bs ms n m i) (r : Int) (hf : Fresh es 0) : wV bs es bal S Bo 0 r = 0 := by
  unfold wV ofV
  rw [tv_new hf, k.zero]
  rfl
theorem wV_own (k : WC bal S Bo bs ms n m i) : wV bs [] bal S Bo 1 1 = bst (tot bal) S Bo := by
  unfold wV ofV
  rw [belowB_self, k.nb.has (x := 1) (by omega), show tv _ ([] : List Ent) bal = 0 from rfl]
  have := bst_b (tot bal) S Bo (tot_b bal)
  simp only [Option.isSome_some, cond_true]
  omega
theorem wV_yes (k : WC bal S Bo bs ms n m i) {bo r : Int} (h : belowB bs bo r = true) : wV bs es bal S Bo bo r = (wV bs es bal S Bo 0 r + bst (tot bal) S Bo) % 18446744073709551616 := by
  unfold wV ofV
  rw [h, k.zero]
  simp only [cond_true, cond_false]
  omega
theorem wV_no (k : WC bal S Bo bs ms n m i) {bo r : Int} (h : belowB bs bo r = false) : wV bs es bal S Bo bo r = wV bs es bal S Bo 0 r := by
  unfold wV
  rw [h, k.zero]
theorem climb_zero {bs : List TBlk} (h : TOk bs) : ∀ t, t < bs.length → climb bs 0 t = 0 := by
  intro t
  induction t using Nat.strongRecOn with
  | _ t ih =>
    intro ht
    by_cases h0 : 0 < t
    · have hp := h.par t h0 ht
      rw [climb_go h0 hp]
      exact ih _ hp (by omega)
    · rw [climb_stop h0]
      omega
theorem WC.first (k : WC bal S Bo bs ms n m i) (r : Int) : belowB bs r 1 = (idx bs r).isSome := by
  unfold belowB
  rw [show idx bs 1 = some 0 from k.nb.idx (j := 0) (by omega)]
  cases hx : idx bs r with
  | none => rfl
  | some t =>
    show decide (climb bs 0 t = 0) = true
    exact decide_eq_true (climb_zero k.nb.ok t (idx_some hx).1)
theorem wV_first (k : WC bal S Bo bs ms n m i) : wV bs es bal S Bo 0 1 = tv (fun x => (idx bs x).isSome) es bal % 18446744073709551616 := by
  unfold wV ofV
  rw [k.zero, show (fun x => belowB bs x 1) = fun x => (idx bs x).isSome from funext k.first]
  simp only [cond_false]
  omega
theorem WC.out (k : WC bal S Bo bs ms n m i) (r : Int) : belowB bs r 999 = false := by
  unfold belowB
  rw [k.nb.new (x := 999) (by have := k.i3; omega)]
  cases idx bs r <;> rfl
theorem wV_out (k : WC bal S Bo bs ms n m i) : wV bs es bal S Bo 999 999 = 0 := by
  unfold wV ofV
  rw [k.out, show (fun x => belowB bs x 999) = fun _ => false from funext k.out, tv, tvK_none _ (fun _ _ _ => rfl)]
  rfl
theorem wV_sum {bo r z : Int} (hz : z = tv (fun x => belowB bs x r) es bal % 18446744073709551616) : (belowB bs bo r = true → (z + bst (tot bal) S Bo) % 18446744073709551616 = wV bs es bal S Bo bo r) ∧ (belowB bs bo r = false → z = wV bs es bal S Bo bo r) := by
  unfold wV ofV
  refine ⟨fun h => ?_, fun h => ?_⟩
  · rw [h, hz]; simp only [cond_true]; omega
  · rw [h, hz]; simp only [cond_false]; omega
theorem one_nat (bal : List Int) (j : Nat) (h : j < bal.length) : one bal (j : Int) = bal.getD j 0 := by
  unfold one
  rw [if_pos (by omega), Int.toNat_natCast]
/-- one more vote -/
theorem tv_more (p : Int → Bool) {j : Nat} (hf : Fresh es j) (hj : j < es.length) (hb : j < bal.length) (r z : Int) (hz : z = tv p es bal % 18446744073709551616) :
    (p r = true → (z + bal.getD j 0) % 18446744073709551616 = tv p (es.set j ⟨true, 1, r, false⟩) bal % 18446744073709551616) ∧ (p r = false → z = tv p (es.set j ⟨true, 1, r, false⟩) bal % 18446744073709551616) ∧ z = tv p (es.set j ⟨true, 1, r, true⟩) bal % 18446744073709551616 := by
  refine ⟨fun h => ?_, fun h => ?_, ?_⟩
  · rw [tv_set hf hj, if_pos ⟨rfl, rfl, h⟩, one_nat bal j hb, hz]
    omega
  · rw [tv_set hf hj, if_neg (fun e => by rw [h] at e; cases e.2.2), hz]
    omega
  · rw [tv_set hf hj, if_neg (fun e => by cases e.1), hz]
    omega
theorem WC.fnd (k : WC bal S Bo bs ms n m i) (r : Int) : ((idx bs r).isSome = true → ∃ t : Nat, Go.Proofs.Ythdohlcaocajdaa.fnd ms r = (t : Int)) ∧ ((idx bs r).isSome = false → Go.Proofs.Ythdohlcaocajdaa.fnd ms r = -1) := by
  rw [k.mo.fnd]
  cases idx bs r with
  | none => exact ⟨fun h => (by cases h), fun _ => rfl⟩
  | some t => exact ⟨fun _ => ⟨t, rfl⟩, fun h => (by cases h)⟩
end Go.Proofs.Ythdohlcaocajdaa

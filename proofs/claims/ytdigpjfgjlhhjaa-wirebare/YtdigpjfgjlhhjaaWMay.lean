/- Contract of psephoslaw04's may: has an event bytes? -/
import Derived.Test.YtdigpjfgjlhhjaaWFits

namespace Go.Proofs.Ytdigpjfgjlhhjaa

open Go.ChangeShapes Go.WideShapes Go.ChangeAt Go.RowKit

set_option linter.unusedVariables false

def pfB (p : Pf) : Bool := fitsB p.a && fitsB p.b
def bk0 (b : Bk) : Bool := decide ((0 ≤ b.slot ∧ b.slot ≤ 1099511627776) ∧ b.votes.length ≤ 16 ∧ b.proofs.length ≤ 16)
def bkB (b : Bk) : Bool := bk0 b && b.votes.all fitsB && b.proofs.all pfB
/-- has an event bytes? -/
def evB (e : Ev) : Bool := if e.kind = 0 then inSlot e.slot else if e.kind = 2 then fitsB e.vote else if e.kind = 3 then pfB e.proof else if e.kind = 1 then bkB e.block else false

/-- an event's cells, written out -/
structure EvIn (w : World) (cs : List Value) (e : Ev) (a1 : Option Addr) (l1 c1 : Nat) (a2 : Option Addr) (l2 c2 : Nat) (a3 : Option Addr) (l3 c3 : Nat) (a4 : Option Addr) (l4 c4 : Nat) (a5 : Option Addr) (l5 c5 : Nat) : Prop where
  cells : cs = [.int .i64 e.kind, .int .i64 e.slot, .int .u64 e.block.root, .int .u64 e.block.parent, .int .i64 e.block.slot, .slice a1 l1 c1, .slice a2 l2 c2,
    .int .i64 e.vote.slot, .int .u64 e.vote.head, .int .i64 e.vote.sE, .int .u64 e.vote.sR, .int .i64 e.vote.tE, .int .u64 e.vote.tR, .slice a3 l3 c3,
    .int .i64 e.proof.a.slot, .int .u64 e.proof.a.head, .int .i64 e.proof.a.sE, .int .u64 e.proof.a.sR, .int .i64 e.proof.a.tE, .int .u64 e.proof.a.tR, .slice a4 l4 c4,
    .int .i64 e.proof.b.slot, .int .u64 e.proof.b.head, .int .i64 e.proof.b.sE, .int .u64 e.proof.b.sR, .int .i64 e.proof.b.tE, .int .u64 e.proof.b.tR, .slice a5 l5 c5]
  kind : IsI64 e.kind
  slot : IsI64 e.slot
  block : IsU64 e.block.root ∧ IsU64 e.block.parent ∧ IsI64 e.block.slot
  votes : RowsIn (VoteC w) 7 w a1 l1 c1 e.block.votes
  proofs : RowsIn (ProofC w) 14 w a2 l2 c2 e.block.proofs
  vote : VoteC w [.int .i64 e.vote.slot, .int .u64 e.vote.head, .int .i64 e.vote.sE, .int .u64 e.vote.sR, .int .i64 e.vote.tE, .int .u64 e.vote.tR, .slice a3 l3 c3] e.vote
  pa : VoteC w [.int .i64 e.proof.a.slot, .int .u64 e.proof.a.head, .int .i64 e.proof.a.sE, .int .u64 e.proof.a.sR, .int .i64 e.proof.a.tE, .int .u64 e.proof.a.tR, .slice a4 l4 c4] e.proof.a
  pb : VoteC w [.int .i64 e.proof.b.slot, .int .u64 e.proof.b.head, .int .i64 e.proof.b.sE, .int .u64 e.proof.b.sR, .int .i64 e.proof.b.tE, .int .u64 e.proof.b.tR, .slice a5 l5 c5] e.proof.b
theorem VoteC.out {w : World} {cs : List Value} {v : Vt} (h : VoteC w cs v) : ∃ ao l c, cs = [.int .i64 v.slot, .int .u64 v.head, .int .i64 v.sE, .int .u64 v.sR, .int .i64 v.tE, .int .u64 v.tR, .slice ao l c] ∧
    VoteC w [.int .i64 v.slot, .int .u64 v.head, .int .i64 v.sE, .int .u64 v.sR, .int .i64 v.tE, .int .u64 v.tR, .slice ao l c] v := by
  obtain ⟨hw, ao, l, c, rfl, hr⟩ := h
  exact ⟨ao, l, c, rfl, hw, ao, l, c, rfl, hr⟩
theorem EventC.out {w : World} {cs : List Value} {e : Ev} (h : EventC w cs e) : ∃ a1 l1 c1 a2 l2 c2 a3 l3 c3 a4 l4 c4 a5 l5 c5, EvIn w cs e a1 l1 c1 a2 l2 c2 a3 l3 c3 a4 l4 c4 a5 l5 c5 := by
  obtain ⟨⟨hk, hs⟩, x, y, z, rfl, ⟨hb, a1, l1, c1, a2, l2, c2, rfl, h1, h2⟩, hv, p, q, rfl, hp, hq⟩ := h
  obtain ⟨a3, l3, c3, rfl, hv⟩ := hv.out
  obtain ⟨a4, l4, c4, rfl, hp⟩ := hp.out
  obtain ⟨a5, l5, c5, rfl, hq⟩ := hq.out
  exact ⟨a1, l1, c1, a2, l2, c2, a3, l3, c3, a4, l4, c4, a5, l5, c5, rfl, hk, hs, hb, h1, h2, hv, hp, hq⟩

/-- an event's cells -/
abbrev evCs (kd es : Int) (bk : Bk) (vt : Vt) (pf : Pf) (a1 : Option Addr) (l1 c1 : Nat) (a2 : Option Addr) (l2 c2 : Nat) (a3 : Option Addr) (l3 c3 : Nat) (a4 : Option Addr) (l4 c4 : Nat) (a5 : Option Addr) (l5 c5 : Nat) : Array Value :=
  #[.int .i64 kd, .int .i64 es, .int .u64 bk.root, .int .u64 bk.parent, .int .i64 bk.slot, .slice a1 l1 c1, .slice a2 l2 c2,
    .int .i64 vt.slot, .int .u64 vt.head, .int .i64 vt.sE, .int .u64 vt.sR, .int .i64 vt.tE, .int .u64 vt.tR, .slice a3 l3 c3,
    .int .i64 pf.a.slot, .int .u64 pf.a.head, .int .i64 pf.a.sE, .int .u64 pf.a.sR, .int .i64 pf.a.tE, .int .u64 pf.a.tR, .slice a4 l4 c4,
    .int .i64 pf.b.slot, .int .u64 pf.b.head, .int .i64 pf.b.sE, .int .u64 pf.b.sR, .int .i64 pf.b.tE, .int .u64 pf.b.tR, .slice a5 l5 c5]
abbrev vtCs (vt : Vt) (a3 : Option Addr) (l3 c3 : Nat) : List Value := [.int .i64 vt.slot, .int .u64 vt.head, .int .i64 vt.sE, .int .u64 vt.sR, .int .i64 vt.tE, .int .u64 vt.tR, .slice a3 l3 c3]

theorem all_snoc {α : Type} (l : List α) (p : α → Bool) (k : Nat) (h : k < l.length) : (l.take (k + 1)).all p = ((l.take k).all p && p l[k]) := by
  rw [List.take_succ_eq_append_getElem h, List.all_append]
  simp
/-- a vote of a row: its cells, as the walk reckons them -/
theorem vote_at {w wr : World} {ao : Option Addr} {l c : Nat} {vs : List Vt} (H : RowsIn (VoteC w) 7 w ao l c vs) (hb : Below w.heap.size w wr) (k : Nat) (hk : k < vs.length) :
    ∃ b off av lv cv, ao = some ⟨b, off, none⟩ ∧ b < w.heap.size ∧ VoteC wr (vtCs vs[k] av lv cv) vs[k] ∧
      wr.cell? ⟨b, off + k * 7, none⟩ = some (.int .i64 vs[k].slot) ∧
      wr.cell? ⟨b, off + k * 7 + 1, none⟩ = some (.int .u64 vs[k].head) ∧
      wr.cell? ⟨b, off + k * 7 + 2, none⟩ = some (.int .i64 vs[k].sE) ∧
      wr.cell? ⟨b, off + k * 7 + 3, none⟩ = some (.int .u64 vs[k].sR) ∧
      wr.cell? ⟨b, off + k * 7 + 4, none⟩ = some (.int .i64 vs[k].tE) ∧
      wr.cell? ⟨b, off + k * 7 + 5, none⟩ = some (.int .u64 vs[k].tR) ∧
      wr.cell? ⟨b, off + k * 7 + 6, none⟩ = some (.slice av lv cv) := by
  obtain ⟨b, off, cs, e, hbs, hcl, hcc, hvc⟩ := H.row k hk
  obtain ⟨av, lv, cv, rfl, hvc⟩ := hvc.out
  generalize vs[k] = v at *
  have x0 := (hb.cell (p := ⟨b, off + (k * 7 + 0), none⟩) hbs).trans (hcc 0 (by omega))
  have x1 := (hb.cell (p := ⟨b, off + (k * 7 + 1), none⟩) hbs).trans (hcc 1 (by omega))
  have x2 := (hb.cell (p := ⟨b, off + (k * 7 + 2), none⟩) hbs).trans (hcc 2 (by omega))
  have x3 := (hb.cell (p := ⟨b, off + (k * 7 + 3), none⟩) hbs).trans (hcc 3 (by omega))
  have x4 := (hb.cell (p := ⟨b, off + (k * 7 + 4), none⟩) hbs).trans (hcc 4 (by omega))
  have x5 := (hb.cell (p := ⟨b, off + (k * 7 + 5), none⟩) hbs).trans (hcc 5 (by omega))
  have x6 := (hb.cell (p := ⟨b, off + (k * 7 + 6), none⟩) hbs).trans (hcc 6 (by omega))
  simp only [List.getElem?_cons_zero, List.getElem?_cons_succ, ← Nat.add_assoc, Nat.add_zero] at x0 x1 x2 x3 x4 x5 x6
  exact ⟨b, off, av, lv, cv, e, hbs, hvc.below hb, x0, x1, x2, x3, x4, x5, x6⟩
/-- a proof of a row -/
theorem proof_at {w wr : World} {ao : Option Addr} {l c : Nat} {ps : List Pf} (H : RowsIn (ProofC w) 14 w ao l c ps) (hb : Below w.heap.size w wr) (k : Nat) (hk : k < ps.length) :
    ∃ b off av lv cv aw lw cw, ao = some ⟨b, off, none⟩ ∧ b < w.heap.size ∧ VoteC wr (vtCs ps[k].a av lv cv) ps[k].a ∧ VoteC wr (vtCs ps[k].b aw lw cw) ps[k].b ∧
      wr.cell? ⟨b, off + k * 14, none⟩ = some (.int .i64 ps[k].a.slot) ∧
      wr.cell? ⟨b, off + k * 14 + 1, none⟩ = some (.int .u64 ps[k].a.head) ∧
      wr.cell? ⟨b, off + k * 14 + 2, none⟩ = some (.int .i64 ps[k].a.sE) ∧
      wr.cell? ⟨b, off + k * 14 + 3, none⟩ = some (.int .u64 ps[k].a.sR) ∧
      wr.cell? ⟨b, off + k * 14 + 4, none⟩ = some (.int .i64 ps[k].a.tE) ∧
      wr.cell? ⟨b, off + k * 14 + 5, none⟩ = some (.int .u64 ps[k].a.tR) ∧
      wr.cell? ⟨b, off + k * 14 + 6, none⟩ = some (.slice av lv cv) ∧
      wr.cell? ⟨b, off + k * 14 + 7, none⟩ = some (.int .i64 ps[k].b.slot) ∧
      wr.cell? ⟨b, off + k * 14 + 8, none⟩ = some (.int .u64 ps[k].b.head) ∧
      wr.cell? ⟨b, off + k * 14 + 9, none⟩ = some (.int .i64 ps[k].b.sE) ∧
      wr.cell? ⟨b, off + k * 14 + 10, none⟩ = some (.int .u64 ps[k].b.sR) ∧
      wr.cell? ⟨b, off + k * 14 + 11, none⟩ = some (.int .i64 ps[k].b.tE) ∧
      wr.cell? ⟨b, off + k * 14 + 12, none⟩ = some (.int .u64 ps[k].b.tR) ∧
      wr.cell? ⟨b, off + k * 14 + 13, none⟩ = some (.slice aw lw cw) := by
  obtain ⟨b, off, cs, e, hbs, hcl, hcc, x, y, rfl, hv, hw⟩ := H.row k hk
  obtain ⟨av, lv, cv, rfl, hv⟩ := hv.out
  obtain ⟨aw, lw, cw, rfl, hw⟩ := hw.out
  generalize ps[k] = p at *
  have x0 := (hb.cell (p := ⟨b, off + (k * 14 + 0), none⟩) hbs).trans (hcc 0 (by omega))
  have x1 := (hb.cell (p := ⟨b, off + (k * 14 + 1), none⟩) hbs).trans (hcc 1 (by omega))
  have x2 := (hb.cell (p := ⟨b, off + (k * 14 + 2), none⟩) hbs).trans (hcc 2 (by omega))
  have x3 := (hb.cell (p := ⟨b, off + (k * 14 + 3), none⟩) hbs).trans (hcc 3 (by omega))
  have x4 := (hb.cell (p := ⟨b, off + (k * 14 + 4), none⟩) hbs).trans (hcc 4 (by omega))
  have x5 := (hb.cell (p := ⟨b, off + (k * 14 + 5), none⟩) hbs).trans (hcc 5 (by omega))
  have x6 := (hb.cell (p := ⟨b, off + (k * 14 + 6), none⟩) hbs).trans (hcc 6 (by omega))
  have x7 := (hb.cell (p := ⟨b, off + (k * 14 + 7), none⟩) hbs).trans (hcc 7 (by omega))
  have x8 := (hb.cell (p := ⟨b, off + (k * 14 + 8), none⟩) hbs).trans (hcc 8 (by omega))
  have x9 := (hb.cell (p := ⟨b, off + (k * 14 + 9), none⟩) hbs).trans (hcc 9 (by omega))
  have x10 := (hb.cell (p := ⟨b, off + (k * 14 + 10), none⟩) hbs).trans (hcc 10 (by omega))
  have x11 := (hb.cell (p := ⟨b, off + (k * 14 + 11), none⟩) hbs).trans (hcc 11 (by omega))
  have x12 := (hb.cell (p := ⟨b, off + (k * 14 + 12), none⟩) hbs).trans (hcc 12 (by omega))
  have x13 := (hb.cell (p := ⟨b, off + (k * 14 + 13), none⟩) hbs).trans (hcc 13 (by omega))
  simp only [List.cons_append, List.nil_append, List.getElem?_cons_zero, List.getElem?_cons_succ, ← Nat.add_assoc, Nat.add_zero] at x0 x1 x2 x3 x4 x5 x6 x7 x8 x9 x10 x11 x12 x13
  exact ⟨b, off, av, lv, cv, aw, lw, cw, e, hbs, hv.below hb, hw.below hb, x0, x1, x2, x3, x4, x5, x6, x7, x8, x9, x10, x11, x12, x13⟩

set_option maxHeartbeats 1000000 in
theorem lmay_tick (es : Int) (bk : Bk) (vt : Vt) (pf : Pf) (w : World) (a1 : Option Addr) (l1 c1 : Nat) (a2 : Option Addr) (l2 c2 : Nat) (a3 : Option Addr) (l3 c3 : Nat) (a4 : Option Addr) (l4 c4 : Nat) (a5 : Option Addr) (l5 c5 : Nat) :
    Calls Try.prog 6 #[.agg (evCs 0 es bk vt pf a1 l1 c1 a2 l2 c2 a3 l3 c3 a4 l4 c4 a5 l5 c5)] w fun r w' => r = .returned (.bool (inSlot es)) ∧ Below w.heap.size w w' := by
  by_cases h1 : 0 ≤ es
  · by_cases h2 : es ≤ 1099511627776
    · go_enter Try.func6, Try.ntmps6
      go_wp2
      go_ret
      exact ⟨ret_bool (decide_eq_true (by omega)).symm, below_alloc _ _⟩
    · go_enter Try.func6, Try.ntmps6
      go_wp2
      go_ret
      exact ⟨ret_bool (decide_eq_false (by omega)).symm, below_alloc _ _⟩
  · go_enter Try.func6, Try.ntmps6
    go_wp2
    go_ret
    exact ⟨ret_bool (decide_eq_false (by omega)).symm, below_alloc _ _⟩

set_option maxHeartbeats 1000000 in
theorem lmay_attest (es : Int) (bk : Bk) (vt : Vt) (pf : Pf) (w : World) (a1 : Option Addr) (l1 c1 : Nat) (a2 : Option Addr) (l2 c2 : Nat) (a3 : Option Addr) (l3 c3 : Nat) (a4 : Option Addr) (l4 c4 : Nat) (a5 : Option Addr) (l5 c5 : Nat) (HVT : VoteC w (vtCs vt a3 l3 c3) vt) :
    Calls Try.prog 6 #[.agg (evCs 2 es bk vt pf a1 l1 c1 a2 l2 c2 a3 l3 c3 a4 l4 c4 a5 l5 c5)] w fun r w' => r = .returned (.bool (fitsB vt)) ∧ Below w.heap.size w w' := by
  have H := hide HVT
  clear HVT
  go_enter Try.func6, Try.ntmps6
  go_wp2_with (go_at_call 14; refine (lfits_any vt _ _ (H.out.below (below_alloc _ _))).mono ?_; rintro r w1 ⟨rfl, hb1⟩)
  go_ret
  exact ⟨rfl, (below_alloc w _).trans (hb1.mono (by simp))⟩

set_option maxHeartbeats 1000000 in
theorem lmay_slash (es : Int) (bk : Bk) (vt : Vt) (pf : Pf) (w : World) (a1 : Option Addr) (l1 c1 : Nat) (a2 : Option Addr) (l2 c2 : Nat) (a3 : Option Addr) (l3 c3 : Nat) (a4 : Option Addr) (l4 c4 : Nat) (a5 : Option Addr) (l5 c5 : Nat) (HA : VoteC w (vtCs pf.a a4 l4 c4) pf.a) (HB : VoteC w (vtCs pf.b a5 l5 c5) pf.b) :
    Calls Try.prog 6 #[.agg (evCs 3 es bk vt pf a1 l1 c1 a2 l2 c2 a3 l3 c3 a4 l4 c4 a5 l5 c5)] w fun r w' => r = .returned (.bool (pfB pf)) ∧ Below w.heap.size w w' := by
  have H := hide HA
  have K := hide HB
  clear HA HB
  go_enter Try.func6, Try.ntmps6
  go_wp2_with fail
  refine (lfits_any pf.a _ _ (H.out.below (below_alloc _ _))).mono ?_
  rintro r w1 ⟨rfl, hb1⟩
  obtain ⟨q, hq⟩ : ∃ q, Hid (fitsB pf.a = q) := ⟨_, rfl⟩
  rw [hq.out]
  have hcell := fun i => hb1.cell (p := ⟨w.heap.size, i, none⟩) (by simp)
  have d1 := hcell 21
  have d2 := hcell 22
  have d3 := hcell 23
  have d4 := hcell 24
  have d5 := hcell 25
  have d6 := hcell 26
  have d7 := hcell 27
  simp [go_sem] at d1 d2 d3 d4 d5 d6 d7
  have HB1 := hide ((below_alloc w _).trans (hb1.mono (by simp)))
  clear hcell hb1
  cases q
  · go_wp2
    go_ret
    exact ⟨ret_bool (by rw [pfB, hq.out]; rfl), HB1.out⟩
  · go_wp2_with fail
    refine (lfits_any pf.b _ _ (K.out.below HB1.out)).mono ?_
    rintro r w2 ⟨rfl, hb2⟩
    go_wp2
    go_ret
    exact ⟨ret_bool (by rw [pfB, hq.out]; rfl), HB1.out.trans (hb2.mono HB1.out.size)⟩

set_option maxHeartbeats 1000000 in
theorem lmay_none (kd : Int) (es : Int) (bk : Bk) (vt : Vt) (pf : Pf) (w : World) (a1 : Option Addr) (l1 c1 : Nat) (a2 : Option Addr) (l2 c2 : Nat) (a3 : Option Addr) (l3 c3 : Nat) (a4 : Option Addr) (l4 c4 : Nat) (a5 : Option Addr) (l5 c5 : Nat) (k0 : ¬ kd = 0) (k1 : ¬ kd = 1) (k2 : ¬ kd = 2) (k3 : ¬ kd = 3) :
    Calls Try.prog 6 #[.agg (evCs kd es bk vt pf a1 l1 c1 a2 l2 c2 a3 l3 c3 a4 l4 c4 a5 l5 c5)] w fun r w' => r = .returned (.bool false) ∧ Below w.heap.size w w' := by
  go_enter Try.func6, Try.ntmps6
  go_wp2
  go_ret
  exact ⟨rfl, below_alloc _ _⟩

set_option maxHeartbeats 2000000 in
theorem lmay_block (es : Int) (bk : Bk) (vt : Vt) (pf : Pf) (w : World) (a1 : Option Addr) (l1 c1 : Nat) (a2 : Option Addr) (l2 c2 : Nat) (a3 : Option Addr) (l3 c3 : Nat) (a4 : Option Addr) (l4 c4 : Nat) (a5 : Option Addr) (l5 c5 : Nat) (HV : RowsIn (VoteC w) 7 w a1 l1 c1 bk.votes) (HP : RowsIn (ProofC w) 14 w a2 l2 c2 bk.proofs) :
    Calls Try.prog 6 #[.agg (evCs 1 es bk vt pf a1 l1 c1 a2 l2 c2 a3 l3 c3 a4 l4 c4 a5 l5 c5)] w fun r w' => r = .returned (.bool (bkB bk)) ∧ Below w.heap.size w w' := by
  have hn1 := HV.len
  have hn2 := HP.len
  have hn1c := HV.cap
  have hn2c := HP.cap
  unfold maxLen at hn1c hn2c
  have H := hide HV
  have K := hide HP
  clear HV HP
  go_enter Try.func6, Try.ntmps6
  go_upto_region 9 with fail
  go_cut [3] from 39 to 62 (fun x wx => x = Value.bool (bk0 bk) ∧ wx = w.alloc (.cells (evCs 1 es bk vt pf a1 l1 c1 a2 l2 c2 a3 l3 c3 a4 l4 c4 a5 l5 c5) 38))
  case first =>
    have hf : Hid (∀ b, b = decide ((0 ≤ bk.slot ∧ bk.slot ≤ 1099511627776) ∧ bk.votes.length ≤ 16 ∧ bk.proofs.length ≤ 16) → Value.bool b = Value.bool (bk0 bk)) := fun b h => by rw [h]; rfl
    by_cases h1 : 0 ≤ bk.slot
    case neg => go_wp2; go_meet; exact ⟨hf.out _ (decide_eq_false (by omega)).symm, rfl⟩
    by_cases h2 : bk.slot ≤ 1099511627776
    case neg => go_wp2; go_meet; exact ⟨hf.out _ (decide_eq_false (by omega)).symm, rfl⟩
    by_cases h3 : (l1 : Int) ≤ 16
    case neg => go_wp2; go_meet; exact ⟨hf.out _ (decide_eq_false (by omega)).symm, rfl⟩
    by_cases h4 : (l2 : Int) ≤ 16
    case neg => go_wp2; go_meet; exact ⟨hf.out _ (decide_eq_false (by omega)).symm, rfl⟩
    go_wp2
    go_meet
    exact ⟨hf.out _ (decide_eq_true (by omega)).symm, rfl⟩
  case rest =>
    obtain ⟨rfl, rfl⟩ := hcut
    obtain ⟨ok, hok⟩ : ∃ x, Hid (bk0 bk = x) := ⟨_, rfl⟩
    obtain ⟨W0, hW0⟩ : ∃ W, Hid (w.alloc (.cells (evCs 1 es bk vt pf a1 l1 c1 a2 l2 c2 a3 l3 c3 a4 l4 c4 a5 l5 c5) 38) = W) := ⟨_, rfl⟩
    rw [hok.out, hW0.out]
    have hb0 : Below w.heap.size w W0 := by rw [← hW0.out]; exact below_alloc _ _
    have hs0 : w.heap.size < W0.heap.size := by rw [← hW0.out]; simp
    have e5 : W0.cell? ⟨w.heap.size, 5, none⟩ = some (.slice a1 l1 c1) := by rw [← hW0.out]; simp [go_sem]
    have e6 : W0.cell? ⟨w.heap.size, 6, none⟩ = some (.slice a2 l2 c2) := by rw [← hW0.out]; simp [go_sem]
    have H0 := hide (H.out.mono hb0 fun cs v h => h.below hb0)
    have K0 := hide (K.out.mono hb0 fun cs v h => h.below hb0)
    have HB0 := hide hb0
    clear H K hb0
    go_wp2
    go_loopw [3, 67] (fun x i wr => ∃ k : Nat, k ≤ l1 ∧ i = .int .i64 k ∧ x = .bool (ok && (bk.votes.take k).all fitsB) ∧ Hid (Below W0.heap.size W0 wr)) (fun _ i _ => l1 - (intOf i).toNat)
    case atStart => exact ⟨0, Nat.zero_le _, rfl, by simp, hide (Below.refl _ _)⟩
    case round =>
      obtain ⟨k, hk, rfl, rfl, hI⟩ := hrel
      by_cases hlt : k < l1
      · obtain ⟨b, off, av, lv, cv, rfl, hbs, hvc, x0, x1, x2, x3, x4, x5, x6⟩ := vote_at H0.out hI.out k (by omega)
        have ha := all_snoc bk.votes fitsB k (by omega)
        obtain ⟨v, hgv⟩ : ∃ v, Hid (bk.votes[k] = v) := ⟨_, hide rfl⟩
        rw [hgv.out] at x0 x1 x2 x3 x4 x5 ha hvc
        have HVC := hide hvc
        obtain ⟨q, hq⟩ : ∃ q, Hid ((ok && (bk.votes.take k).all fitsB) = q) := ⟨_, rfl⟩
        rw [hq.out]
        have hn : Hid ((ok && (bk.votes.take (k + 1)).all fitsB) = (q && fitsB v)) := by
          have h : (ok && (bk.votes.take (k + 1)).all fitsB) = (q && fitsB v) := by rw [ha, ← hq.out, Bool.and_assoc]
          exact h
        clear ha hvc
        cases q
        · go_wp2
          go_roundw
          case rel => exact ⟨k + 1, by omega, by go_num, by rw [hn.out]; rfl, hide (hI.out.alloc hI.out.size _)⟩
          case measure => simp [intOf]; omega
        · go_wp2_with fail
          refine (lfits_any v _ _ (HVC.out.below (below_alloc _ _))).mono ?_
          rintro r w1 ⟨rfl, hb1⟩
          have HI := hide ((hI.out.alloc hI.out.size (.cells (vtCs v av lv cv).toArray 34)).trans (hb1.mono (by have := hI.out.size; simp; omega)))
          clear hb1
          go_wp2
          go_roundw
          case rel => exact ⟨k + 1, by omega, by go_num, by rw [hn.out]; rfl, HI⟩
          case measure => simp [intOf]; omega
      · have : k = l1 := by omega
        subst this
        rw [List.take_of_length_le (by omega)]
        obtain ⟨ok2, hok2⟩ : ∃ q, Hid ((ok && bk.votes.all fitsB) = q) := ⟨_, rfl⟩
        rw [hok2.out]
        have e6 := (hI.out.cell (p := ⟨w.heap.size, 6, none⟩) hs0).trans e6
        go_wp2
        go_loopw [3, 81] (fun x i wr => ∃ k : Nat, k ≤ l2 ∧ i = .int .i64 k ∧ x = .bool (ok2 && (bk.proofs.take k).all pfB) ∧ Hid (Below W0.heap.size W0 wr)) (fun _ i _ => l2 - (intOf i).toNat)
        case atStart => exact ⟨0, Nat.zero_le _, rfl, by simp, hI⟩
        case round =>
          clear hI e6
          obtain ⟨j, hj, rfl, rfl, hI⟩ := hrel
          by_cases hlt : j < l2
          · obtain ⟨b, off, av, lv, cv, aw, lw, cw, rfl, hbs, hva, hvb, x0, x1, x2, x3, x4, x5, x6, y0, y1, y2, y3, y4, y5, y6⟩ := proof_at K0.out hI.out j (by omega)
            have ha := all_snoc bk.proofs pfB j (by omega)
            obtain ⟨p, hgp⟩ : ∃ v, Hid (bk.proofs[j] = v) := ⟨_, hide rfl⟩
            rw [hgp.out] at x0 x1 x2 x3 x4 x5 y0 y1 y2 y3 y4 y5 ha hva hvb
            have HVA := hide hva
            have HVB := hide hvb
            obtain ⟨q, hq⟩ : ∃ q, Hid ((ok2 && (bk.proofs.take j).all pfB) = q) := ⟨_, rfl⟩
            rw [hq.out]
            have hn : Hid ((ok2 && (bk.proofs.take (j + 1)).all pfB) = (q && (fitsB p.a && fitsB p.b))) := by
              have h : (ok2 && (bk.proofs.take (j + 1)).all pfB) = (q && (fitsB p.a && fitsB p.b)) := by rw [ha, ← hq.out, Bool.and_assoc]; rfl
              exact h
            clear ha hva hvb
            cases q
            · go_wp2
              go_roundw
              case rel => exact ⟨j + 1, by omega, by go_num, by rw [hn.out]; rfl, hide (hI.out.alloc hI.out.size _)⟩
              case measure => simp [intOf]; omega
            · go_wp2_with fail
              refine (lfits_any p.a _ _ (HVA.out.below (below_alloc _ _))).mono ?_
              rintro r w1 ⟨rfl, hb1⟩
              obtain ⟨q, hqa⟩ : ∃ q, Hid (fitsB p.a = q) := ⟨_, rfl⟩
              rw [hqa.out]
              have hcell := fun i => hb1.cell (p := ⟨wr.heap.size, i, none⟩) (by simp)
              have d1 := hcell 7
              have d2 := hcell 8
              have d3 := hcell 9
              have d4 := hcell 10
              have d5 := hcell 11
              have d6 := hcell 12
              have d7 := hcell 13
              simp [go_sem] at d1 d2 d3 d4 d5 d6 d7
              have HV1 := hide ((HVB.out.below (below_alloc wr _)).below hb1)
              have HI1 := hide ((hI.out.alloc hI.out.size _).trans (hb1.mono (by have := hI.out.size; simp; omega)))
              clear hcell hb1
              rw [hqa.out] at hn
              cases q
              · go_wp2
                go_roundw
                case rel => exact ⟨j + 1, by omega, by go_num, by rw [hn.out]; rfl, HI1⟩
                case measure => simp [intOf]; omega
              · go_wp2_with fail
                refine (lfits_any p.b _ _ HV1.out).mono ?_
                rintro r w2 ⟨rfl, hb2⟩
                have HI2 := hide (HI1.out.trans (hb2.mono HI1.out.size))
                clear hb2
                go_wp2
                go_roundw
                case rel => exact ⟨j + 1, by omega, by go_num, by rw [hn.out]; rfl, HI2⟩
                case measure => simp [intOf]; omega
          · have : j = l2 := by omega
            subst this
            rw [List.take_of_length_le (by omega)]
            go_wp2
            go_ret
            exact ⟨ret_bool (by rw [bkB, hok.out, hok2.out]), HB0.out.trans (hI.out.mono HB0.out.size)⟩

theorem lmay_any (e : Ev) (cs : List Value) (w : World) (h : EventC w cs e) :
    Calls Try.prog 6 #[.agg cs.toArray] w fun r w' => r = .returned (.bool (evB e)) ∧ Below w.heap.size w w' := by
  obtain ⟨a1, l1, c1, a2, l2, c2, a3, l3, c3, a4, l4, c4, a5, l5, c5, hE⟩ := h.out
  obtain ⟨hc, _, _, _, hV, hP, hv, ha, hb⟩ := hE
  obtain ⟨kd, es, bk, vt, pf⟩ := e
  subst hc
  by_cases k0 : kd = 0
  · subst k0
    exact lmay_tick es bk vt pf w a1 l1 c1 a2 l2 c2 a3 l3 c3 a4 l4 c4 a5 l5 c5
  by_cases k2 : kd = 2
  · subst k2
    exact lmay_attest es bk vt pf w a1 l1 c1 a2 l2 c2 a3 l3 c3 a4 l4 c4 a5 l5 c5 hv
  by_cases k3 : kd = 3
  · subst k3
    exact lmay_slash es bk vt pf w a1 l1 c1 a2 l2 c2 a3 l3 c3 a4 l4 c4 a5 l5 c5 ha hb
  by_cases k1 : kd = 1
  · subst k1
    exact lmay_block es bk vt pf w a1 l1 c1 a2 l2 c2 a3 l3 c3 a4 l4 c4 a5 l5 c5 hV hP
  have e : evB ⟨kd, es, bk, vt, pf⟩ = false := by simp [evB, k0, k1, k2, k3]
  rw [e]
  exact lmay_none kd es bk vt pf w a1 l1 c1 a2 l2 c2 a3 l3 c3 a4 l4 c4 a5 l5 c5 k0 k1 k2 k3
end Go.Proofs.Ytdigpjfgjlhhjaa

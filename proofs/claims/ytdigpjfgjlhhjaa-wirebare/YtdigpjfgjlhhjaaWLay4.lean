/- Contract of wire's layEvent. -/
import Derived.Test.YtdigpjfgjlhhjaaWLay3

namespace Go.Proofs.Ytdigpjfgjlhhjaa

open Go.ChangeShapes Go.WideShapes Go.ChangeAt Go.RowKit

set_option linter.unusedVariables false

set_option maxHeartbeats 1000000 in
theorem layEv_tick (es : Int) (bk : Bk) (vt : Vt) (pf : Pf) (w0 w : World) (a1 : Option Addr) (l1 c1 : Nat) (a2 : Option Addr) (l2 c2 : Nat) (a3 : Option Addr) (l3 c3 : Nat) (a4 : Option Addr) (l4 c4 : Nat) (a5 : Option Addr) (l5 c5 : Nat) (base n d : Nat) (ao : Option Addr) (ns : List Int) (hb : Below w0.heap.size w0 w) (h0 : w0.heap.size ≤ base) (hbs : base ≤ w.heap.size)
    (hn : ns.length = n) (hn2 : n ≤ 999990000000) (ho : OwnsU w base (.slice ao n d) ns)  :
    Calls Try.prog 20 #[.slice ao n d, .agg (evCs 0 es bk vt pf a1 l1 c1 a2 l2 c2 a3 l3 c3 a4 l4 c4 a5 l5 c5)] w fun e w' => ∃ ao' n' d', e = .returned (.slice ao' n' d') ∧ Hid ((ns ++ (0 :: [u64 es])).length = n') ∧ Lay base w (.slice ao' n' d') (ns ++ (0 :: [u64 es])) w' := by
  obtain ⟨W0, hW0⟩ : ∃ W, Hid (w.alloc (.cells (evCs 0 es bk vt pf a1 l1 c1 a2 l2 c2 a3 l3 c3 a4 l4 c4 a5 l5 c5) 38) = W) := ⟨_, rfl⟩
  have LW : Hid (Lay base w (.slice ao n d) ns W0) := by rw [← hW0.out]; exact (Lay.refl ho).alloc hbs _
  have L0 := hide (Lay.refl LW.out.own)
  have hO : Hid (W0.heap[w.heap.size]? = some (.cells (evCs 0 es bk vt pf a1 l1 c1 a2 l2 c2 a3 l3 c3 a4 l4 c4 a5 l5 c5) 38 (0, 0))) := by rw [← hW0.out]; exact heap_alloc_new _ _
  have hne : Hid (38 ≠ 25) := show _ ≠ _ by decide
  have hsW : base ≤ W0.heap.size := Nat.le_trans hbs LW.out.bel.size
  have N0 := hide hn
  have uk : IntKind.u64.wrap 0 = 0 := by rw [IntKind.wrap_u64]; rfl
  have g0 : W0.cell? ⟨w.heap.size, 0, none⟩ = some (.int .i64 0) := cell_of_row W0 w.heap.size 0 _ _ _ hO.out
  have HBW := hide (Below.lay hb h0 LW.out.bel)
  clear ho hb hn
  obtain ⟨i0, hi, hz0, hz1, hz2⟩ := info_parts infoU64
  go_enter Try.func20, Try.ntmps20
  go_upto_region 1 with fail
  rw [hW0.out]
  go_wp2_with (at_builtin; refine wpList_append_rows _ rfl (.tmp 5) (.tmp 9) 48 rfl base 25 i0 .u64 (.int .u64 0) 8 Try.underlying48 hi hz0 hz1 hz2 rfl (.slice ao n d) (n) (ns) rfl (owns_as (L0.out.alloc hsW _).own N0.out) (some ⟨W0.heap.size, 0, none⟩) 1 1 [_] rfl (RowIn.lit .u64 _ _ _ _ _ _ _ [_] rfl rfl rfl (by simp [maxLen])) ?c1 ?c2 ?c3 ?_)
  case c1 => unfold maxLen; omega
  case c2 => omega
  case c3 => simp; omega
  intro ao1 d1 w1 hown hgrow
  obtain ⟨ns1, E1⟩ : ∃ x : List Int, Hid (ns ++ [0] = x) := ⟨ns ++ [0], hide rfl⟩
  have h := Lay.app L0.out hsW hgrow hown (ys := [0]) (by simp) E1.out
  have L1 := hide h.1
  have N1 := hide h.2
  have hsr := Nat.le_trans hsW L1.out.bel.size
  clear hown hgrow h g0
  have hh := fun i => cell_of_row w1 w.heap.size i _ _ _ (L1.out.obj hO.out hne.out)
  have g0 : w1.cell? ⟨w.heap.size, 0, none⟩ = some (.int .i64 0) := hh 0
  have g1 : w1.cell? ⟨w.heap.size, 1, none⟩ = some (.int .i64 es) := hh 1
  clear hh
  go_wp2_with (at_builtin; refine wpList_append_rows _ rfl (.tmp 31) (.tmp 35) 48 rfl base 25 i0 .u64 (.int .u64 0) 8 Try.underlying48 hi hz0 hz1 hz2 rfl (.slice ao1 (n + 1) d1) (n + 1) (ns1) rfl (owns_as (L1.out.alloc hsW _).own N1.out) (some ⟨w1.heap.size, 0, none⟩) 1 1 [_] rfl (RowIn.lit .u64 _ _ _ _ _ _ _ [_] rfl rfl rfl (by simp [maxLen])) ?c1 ?c2 ?c3 ?_)
  case c1 => unfold maxLen; omega
  case c2 => omega
  case c3 => simp; omega
  intro ao2 d2 w2 hown hgrow
  have h := Lay.app L1.out hsW hgrow hown (ys := [u64 es]) (by simp [u64_eq]) (show _ = ns ++ (0 :: [u64 es]) by rw [← E1.out]; simp)
  have L2 := hide h.1
  have N2 := hide h.2
  clear hown hgrow h
  go_wp2
  go_ret
  exact ⟨_, _, _, rfl, N2, LW.out.trans L2.out⟩

set_option maxHeartbeats 1000000 in
theorem layEv_attest (es : Int) (bk : Bk) (vt : Vt) (pf : Pf) (w0 w : World) (a1 : Option Addr) (l1 c1 : Nat) (a2 : Option Addr) (l2 c2 : Nat) (a3 : Option Addr) (l3 c3 : Nat) (a4 : Option Addr) (l4 c4 : Nat) (a5 : Option Addr) (l5 c5 : Nat) (base n d : Nat) (ao : Option Addr) (ns : List Int) (hb : Below w0.heap.size w0 w) (h0 : w0.heap.size ≤ base) (hbs : base ≤ w.heap.size)
    (hn : ns.length = n) (hn2 : n ≤ 999990000000) (ho : OwnsU w base (.slice ao n d) ns) (HVT : VoteC w0 (vtCs vt a3 l3 c3) vt) (hl : vt.who.length ≤ 4096) :
    Calls Try.prog 20 #[.slice ao n d, .agg (evCs 2 es bk vt pf a1 l1 c1 a2 l2 c2 a3 l3 c3 a4 l4 c4 a5 l5 c5)] w fun e w' => ∃ ao' n' d', e = .returned (.slice ao' n' d') ∧ Hid ((ns ++ (2 :: voteNs vt)).length = n') ∧ Lay base w (.slice ao' n' d') (ns ++ (2 :: voteNs vt)) w' := by
  have HV := hide HVT
  clear HVT
  obtain ⟨W0, hW0⟩ : ∃ W, Hid (w.alloc (.cells (evCs 2 es bk vt pf a1 l1 c1 a2 l2 c2 a3 l3 c3 a4 l4 c4 a5 l5 c5) 38) = W) := ⟨_, rfl⟩
  have LW : Hid (Lay base w (.slice ao n d) ns W0) := by rw [← hW0.out]; exact (Lay.refl ho).alloc hbs _
  have L0 := hide (Lay.refl LW.out.own)
  have hO : Hid (W0.heap[w.heap.size]? = some (.cells (evCs 2 es bk vt pf a1 l1 c1 a2 l2 c2 a3 l3 c3 a4 l4 c4 a5 l5 c5) 38 (0, 0))) := by rw [← hW0.out]; exact heap_alloc_new _ _
  have hne : Hid (38 ≠ 25) := show _ ≠ _ by decide
  have hsW : base ≤ W0.heap.size := Nat.le_trans hbs LW.out.bel.size
  have N0 := hide hn
  have uk : IntKind.u64.wrap 2 = 2 := by rw [IntKind.wrap_u64]; rfl
  have g0 : W0.cell? ⟨w.heap.size, 0, none⟩ = some (.int .i64 2) := cell_of_row W0 w.heap.size 0 _ _ _ hO.out
  have HBW := hide (Below.lay hb h0 LW.out.bel)
  clear ho hb hn
  obtain ⟨i0, hi, hz0, hz1, hz2⟩ := info_parts infoU64
  go_enter Try.func20, Try.ntmps20
  go_upto_region 1 with fail
  rw [hW0.out]
  go_wp2_with (at_builtin; refine wpList_append_rows _ rfl (.tmp 5) (.tmp 9) 48 rfl base 25 i0 .u64 (.int .u64 0) 8 Try.underlying48 hi hz0 hz1 hz2 rfl (.slice ao n d) (n) (ns) rfl (owns_as (L0.out.alloc hsW _).own N0.out) (some ⟨W0.heap.size, 0, none⟩) 1 1 [_] rfl (RowIn.lit .u64 _ _ _ _ _ _ _ [_] rfl rfl rfl (by simp [maxLen])) ?c1 ?c2 ?c3 ?_)
  case c1 => unfold maxLen; omega
  case c2 => omega
  case c3 => simp; omega
  intro ao1 d1 w1 hown hgrow
  obtain ⟨ns1, E1⟩ : ∃ x : List Int, Hid (ns ++ [2] = x) := ⟨ns ++ [2], hide rfl⟩
  have h := Lay.app L0.out hsW hgrow hown (ys := [2]) (by simp) E1.out
  have L1 := hide h.1
  have N1 := hide h.2
  have hsr := Nat.le_trans hsW L1.out.bel.size
  clear hown hgrow h g0
  have hh := fun i => cell_of_row w1 w.heap.size i _ _ _ (L1.out.obj hO.out hne.out)
  have g0 : w1.cell? ⟨w.heap.size, 0, none⟩ = some (.int .i64 2) := hh 0
  have g7 : w1.cell? ⟨w.heap.size, 7, none⟩ = some (.int .i64 vt.slot) := hh 7
  have g8 : w1.cell? ⟨w.heap.size, 8, none⟩ = some (.int .u64 vt.head) := hh 8
  have g9 : w1.cell? ⟨w.heap.size, 9, none⟩ = some (.int .i64 vt.sE) := hh 9
  have g10 : w1.cell? ⟨w.heap.size, 10, none⟩ = some (.int .u64 vt.sR) := hh 10
  have g11 : w1.cell? ⟨w.heap.size, 11, none⟩ = some (.int .i64 vt.tE) := hh 11
  have g12 : w1.cell? ⟨w.heap.size, 12, none⟩ = some (.int .u64 vt.tR) := hh 12
  have g13 : w1.cell? ⟨w.heap.size, 13, none⟩ = some (.slice a3 l3 c3) := hh 13
  clear hh
  go_wp2_with fail
  refine (layVote_any vt _ w0 _ base (n + 1) d1 ao1 ns1 (Below.lay HBW.out h0 L1.out.bel) h0 hsr HV.out hl N1.out (by omega) L1.out.own).mono ?_
  rintro e w2 ⟨ao2, n2, d2, rfl, N2, hl⟩
  have L2 := hide (L1.out.trans hl)
  have e : ns1 ++ voteNs vt = ns ++ (2 :: voteNs vt) := by rw [← E1.out]; simp
  rw [e] at L2 N2
  clear hl e
  go_wp2
  go_ret
  exact ⟨_, _, _, rfl, N2, LW.out.trans L2.out⟩

set_option maxHeartbeats 1000000 in
theorem layEv_slash (es : Int) (bk : Bk) (vt : Vt) (pf : Pf) (w0 w : World) (a1 : Option Addr) (l1 c1 : Nat) (a2 : Option Addr) (l2 c2 : Nat) (a3 : Option Addr) (l3 c3 : Nat) (a4 : Option Addr) (l4 c4 : Nat) (a5 : Option Addr) (l5 c5 : Nat) (base n d : Nat) (ao : Option Addr) (ns : List Int) (hb : Below w0.heap.size w0 w) (h0 : w0.heap.size ≤ base) (hbs : base ≤ w.heap.size)
    (hn : ns.length = n) (hn2 : n ≤ 999990000000) (ho : OwnsU w base (.slice ao n d) ns) (HPF : ProofC w0 (vtCs pf.a a4 l4 c4 ++ vtCs pf.b a5 l5 c5) pf) (hla : pf.a.who.length ≤ 4096) (hlb : pf.b.who.length ≤ 4096) :
    Calls Try.prog 20 #[.slice ao n d, .agg (evCs 3 es bk vt pf a1 l1 c1 a2 l2 c2 a3 l3 c3 a4 l4 c4 a5 l5 c5)] w fun e w' => ∃ ao' n' d', e = .returned (.slice ao' n' d') ∧ Hid ((ns ++ (3 :: pfNs pf)).length = n') ∧ Lay base w (.slice ao' n' d') (ns ++ (3 :: pfNs pf)) w' := by
  have HV := hide HPF
  clear HPF
  obtain ⟨W0, hW0⟩ : ∃ W, Hid (w.alloc (.cells (evCs 3 es bk vt pf a1 l1 c1 a2 l2 c2 a3 l3 c3 a4 l4 c4 a5 l5 c5) 38) = W) := ⟨_, rfl⟩
  have LW : Hid (Lay base w (.slice ao n d) ns W0) := by rw [← hW0.out]; exact (Lay.refl ho).alloc hbs _
  have L0 := hide (Lay.refl LW.out.own)
  have hO : Hid (W0.heap[w.heap.size]? = some (.cells (evCs 3 es bk vt pf a1 l1 c1 a2 l2 c2 a3 l3 c3 a4 l4 c4 a5 l5 c5) 38 (0, 0))) := by rw [← hW0.out]; exact heap_alloc_new _ _
  have hne : Hid (38 ≠ 25) := show _ ≠ _ by decide
  have hsW : base ≤ W0.heap.size := Nat.le_trans hbs LW.out.bel.size
  have N0 := hide hn
  have uk : IntKind.u64.wrap 3 = 3 := by rw [IntKind.wrap_u64]; rfl
  have g0 : W0.cell? ⟨w.heap.size, 0, none⟩ = some (.int .i64 3) := cell_of_row W0 w.heap.size 0 _ _ _ hO.out
  have HBW := hide (Below.lay hb h0 LW.out.bel)
  clear ho hb hn
  obtain ⟨i0, hi, hz0, hz1, hz2⟩ := info_parts infoU64
  go_enter Try.func20, Try.ntmps20
  go_upto_region 1 with fail
  rw [hW0.out]
  go_wp2_with (at_builtin; refine wpList_append_rows _ rfl (.tmp 5) (.tmp 9) 48 rfl base 25 i0 .u64 (.int .u64 0) 8 Try.underlying48 hi hz0 hz1 hz2 rfl (.slice ao n d) (n) (ns) rfl (owns_as (L0.out.alloc hsW _).own N0.out) (some ⟨W0.heap.size, 0, none⟩) 1 1 [_] rfl (RowIn.lit .u64 _ _ _ _ _ _ _ [_] rfl rfl rfl (by simp [maxLen])) ?c1 ?c2 ?c3 ?_)
  case c1 => unfold maxLen; omega
  case c2 => omega
  case c3 => simp; omega
  intro ao1 d1 w1 hown hgrow
  obtain ⟨ns1, E1⟩ : ∃ x : List Int, Hid (ns ++ [3] = x) := ⟨ns ++ [3], hide rfl⟩
  have h := Lay.app L0.out hsW hgrow hown (ys := [3]) (by simp) E1.out
  have L1 := hide h.1
  have N1 := hide h.2
  have hsr := Nat.le_trans hsW L1.out.bel.size
  clear hown hgrow h g0
  have hh := fun i => cell_of_row w1 w.heap.size i _ _ _ (L1.out.obj hO.out hne.out)
  have g0 : w1.cell? ⟨w.heap.size, 0, none⟩ = some (.int .i64 3) := hh 0
  have g14 : w1.cell? ⟨w.heap.size, 14, none⟩ = some (.int .i64 pf.a.slot) := hh 14
  have g15 : w1.cell? ⟨w.heap.size, 15, none⟩ = some (.int .u64 pf.a.head) := hh 15
  have g16 : w1.cell? ⟨w.heap.size, 16, none⟩ = some (.int .i64 pf.a.sE) := hh 16
  have g17 : w1.cell? ⟨w.heap.size, 17, none⟩ = some (.int .u64 pf.a.sR) := hh 17
  have g18 : w1.cell? ⟨w.heap.size, 18, none⟩ = some (.int .i64 pf.a.tE) := hh 18
  have g19 : w1.cell? ⟨w.heap.size, 19, none⟩ = some (.int .u64 pf.a.tR) := hh 19
  have g20 : w1.cell? ⟨w.heap.size, 20, none⟩ = some (.slice a4 l4 c4) := hh 20
  have g21 : w1.cell? ⟨w.heap.size, 21, none⟩ = some (.int .i64 pf.b.slot) := hh 21
  have g22 : w1.cell? ⟨w.heap.size, 22, none⟩ = some (.int .u64 pf.b.head) := hh 22
  have g23 : w1.cell? ⟨w.heap.size, 23, none⟩ = some (.int .i64 pf.b.sE) := hh 23
  have g24 : w1.cell? ⟨w.heap.size, 24, none⟩ = some (.int .u64 pf.b.sR) := hh 24
  have g25 : w1.cell? ⟨w.heap.size, 25, none⟩ = some (.int .i64 pf.b.tE) := hh 25
  have g26 : w1.cell? ⟨w.heap.size, 26, none⟩ = some (.int .u64 pf.b.tR) := hh 26
  have g27 : w1.cell? ⟨w.heap.size, 27, none⟩ = some (.slice a5 l5 c5) := hh 27
  clear hh
  go_wp2_with fail
  refine (layProof_any pf _ w0 _ base (n + 1) d1 ao1 ns1 (Below.lay HBW.out h0 L1.out.bel) h0 hsr HV.out hla hlb N1.out (by omega) L1.out.own).mono ?_
  rintro e w2 ⟨ao2, n2, d2, rfl, N2, hl⟩
  have L2 := hide (L1.out.trans hl)
  have e : ns1 ++ pfNs pf = ns ++ (3 :: pfNs pf) := by rw [← E1.out]; simp
  rw [e] at L2 N2
  clear hl e
  go_wp2
  go_ret
  exact ⟨_, _, _, rfl, N2, LW.out.trans L2.out⟩

set_option maxHeartbeats 1000000 in
theorem layEv_block (es : Int) (bk : Bk) (vt : Vt) (pf : Pf) (w0 w : World) (a1 : Option Addr) (l1 c1 : Nat) (a2 : Option Addr) (l2 c2 : Nat) (a3 : Option Addr) (l3 c3 : Nat) (a4 : Option Addr) (l4 c4 : Nat) (a5 : Option Addr) (l5 c5 : Nat) (base n d : Nat) (ao : Option Addr) (ns : List Int) (hb : Below w0.heap.size w0 w) (h0 : w0.heap.size ≤ base) (hbs : base ≤ w.heap.size)
    (hn : ns.length = n) (hn2 : n ≤ 999990000000) (ho : OwnsU w base (.slice ao n d) ns) (HBK : BlockC w0 [.int .u64 bk.root, .int .u64 bk.parent, .int .i64 bk.slot, .slice a1 l1 c1, .slice a2 l2 c2] bk) (hok : bkB bk = true) :
    Calls Try.prog 20 #[.slice ao n d, .agg (evCs 1 es bk vt pf a1 l1 c1 a2 l2 c2 a3 l3 c3 a4 l4 c4 a5 l5 c5)] w fun e w' => ∃ ao' n' d', e = .returned (.slice ao' n' d') ∧ Hid ((ns ++ (1 :: bkNs bk)).length = n') ∧ Lay base w (.slice ao' n' d') (ns ++ (1 :: bkNs bk)) w' := by
  have HV := hide HBK
  have HOK := hide hok
  clear HBK hok
  obtain ⟨W0, hW0⟩ : ∃ W, Hid (w.alloc (.cells (evCs 1 es bk vt pf a1 l1 c1 a2 l2 c2 a3 l3 c3 a4 l4 c4 a5 l5 c5) 38) = W) := ⟨_, rfl⟩
  have LW : Hid (Lay base w (.slice ao n d) ns W0) := by rw [← hW0.out]; exact (Lay.refl ho).alloc hbs _
  have L0 := hide (Lay.refl LW.out.own)
  have hO : Hid (W0.heap[w.heap.size]? = some (.cells (evCs 1 es bk vt pf a1 l1 c1 a2 l2 c2 a3 l3 c3 a4 l4 c4 a5 l5 c5) 38 (0, 0))) := by rw [← hW0.out]; exact heap_alloc_new _ _
  have hne : Hid (38 ≠ 25) := show _ ≠ _ by decide
  have hsW : base ≤ W0.heap.size := Nat.le_trans hbs LW.out.bel.size
  have N0 := hide hn
  have uk : IntKind.u64.wrap 1 = 1 := by rw [IntKind.wrap_u64]; rfl
  have g0 : W0.cell? ⟨w.heap.size, 0, none⟩ = some (.int .i64 1) := cell_of_row W0 w.heap.size 0 _ _ _ hO.out
  have HBW := hide (Below.lay hb h0 LW.out.bel)
  clear ho hb hn
  obtain ⟨i0, hi, hz0, hz1, hz2⟩ := info_parts infoU64
  go_enter Try.func20, Try.ntmps20
  go_upto_region 1 with fail
  rw [hW0.out]
  go_wp2_with (at_builtin; refine wpList_append_rows _ rfl (.tmp 5) (.tmp 9) 48 rfl base 25 i0 .u64 (.int .u64 0) 8 Try.underlying48 hi hz0 hz1 hz2 rfl (.slice ao n d) (n) (ns) rfl (owns_as (L0.out.alloc hsW _).own N0.out) (some ⟨W0.heap.size, 0, none⟩) 1 1 [_] rfl (RowIn.lit .u64 _ _ _ _ _ _ _ [_] rfl rfl rfl (by simp [maxLen])) ?c1 ?c2 ?c3 ?_)
  case c1 => unfold maxLen; omega
  case c2 => omega
  case c3 => simp; omega
  intro ao1 d1 w1 hown hgrow
  obtain ⟨ns1, E1⟩ : ∃ x : List Int, Hid (ns ++ [1] = x) := ⟨ns ++ [1], hide rfl⟩
  have h := Lay.app L0.out hsW hgrow hown (ys := [1]) (by simp) E1.out
  have L1 := hide h.1
  have N1 := hide h.2
  have hsr := Nat.le_trans hsW L1.out.bel.size
  clear hown hgrow h g0
  have hh := fun i => cell_of_row w1 w.heap.size i _ _ _ (L1.out.obj hO.out hne.out)
  have g0 : w1.cell? ⟨w.heap.size, 0, none⟩ = some (.int .i64 1) := hh 0
  have g2 : w1.cell? ⟨w.heap.size, 2, none⟩ = some (.int .u64 bk.root) := hh 2
  have g3 : w1.cell? ⟨w.heap.size, 3, none⟩ = some (.int .u64 bk.parent) := hh 3
  have g4 : w1.cell? ⟨w.heap.size, 4, none⟩ = some (.int .i64 bk.slot) := hh 4
  have g5 : w1.cell? ⟨w.heap.size, 5, none⟩ = some (.slice a1 l1 c1) := hh 5
  have g6 : w1.cell? ⟨w.heap.size, 6, none⟩ = some (.slice a2 l2 c2) := hh 6
  clear hh
  go_wp2_with fail
  refine (layBlock_any bk _ w0 _ base (n + 1) d1 ao1 ns1 (Below.lay HBW.out h0 L1.out.bel) h0 hsr HV.out HOK.out N1.out (by omega) L1.out.own).mono ?_
  rintro e w2 ⟨ao2, n2, d2, rfl, N2, hl⟩
  have L2 := hide (L1.out.trans hl)
  have e : ns1 ++ bkNs bk = ns ++ (1 :: bkNs bk) := by rw [← E1.out]; simp
  rw [e] at L2 N2
  clear hl e
  go_wp2
  go_ret
  exact ⟨_, _, _, rfl, N2, LW.out.trans L2.out⟩

theorem layEv_any (e : Ev) (cs : List Value) (w0 w : World) (base n d : Nat) (ao : Option Addr) (ns : List Int) (hb : Below w0.heap.size w0 w) (h0 : w0.heap.size ≤ base) (hbs : base ≤ w.heap.size) (h : EventC w0 cs e) (hok : evB e = true)
    (hn : ns.length = n) (hn2 : n ≤ 999990000000) (ho : OwnsU w base (.slice ao n d) ns) :
    Calls Try.prog 20 #[.slice ao n d, .agg cs.toArray] w fun r w' => ∃ ao' n' d', r = .returned (.slice ao' n' d') ∧ Hid ((ns ++ evNs e).length = n') ∧ Lay base w (.slice ao' n' d') (ns ++ evNs e) w' := by
  obtain ⟨a1, l1, c1, a2, l2, c2, a3, l3, c3, a4, l4, c4, a5, l5, c5, hE⟩ := h.out
  obtain ⟨hc, hk, hs, hbb, hV, hP, hv, ha, hb'⟩ := hE
  obtain ⟨kd, es, bk, vt, pf⟩ := e
  subst hc
  by_cases k0 : kd = 0
  · subst k0
    exact layEv_tick es bk vt pf w0 w a1 l1 c1 a2 l2 c2 a3 l3 c3 a4 l4 c4 a5 l5 c5 base n d ao ns hb h0 hbs hn hn2 ho
  by_cases k2 : kd = 2
  · subst k2
    exact layEv_attest es bk vt pf w0 w a1 l1 c1 a2 l2 c2 a3 l3 c3 a4 l4 c4 a5 l5 c5 base n d ao ns hb h0 hbs hn hn2 ho hv (fitsB_len hok)
  by_cases k3 : kd = 3
  · subst k3
    have hp : pfB pf = true := hok
    rw [pfB, Bool.and_eq_true] at hp
    exact layEv_slash es bk vt pf w0 w a1 l1 c1 a2 l2 c2 a3 l3 c3 a4 l4 c4 a5 l5 c5 base n d ao ns hb h0 hbs hn hn2 ho ⟨_, _, rfl, ha, hb'⟩ (fitsB_len hp.1) (fitsB_len hp.2)
  by_cases k1 : kd = 1
  · subst k1
    exact layEv_block es bk vt pf w0 w a1 l1 c1 a2 l2 c2 a3 l3 c3 a4 l4 c4 a5 l5 c5 base n d ao ns hb h0 hbs hn hn2 ho ⟨hbb, a1, l1, c1, a2, l2, c2, rfl, hV, hP⟩ hok
  simp [evB, k0, k1, k2, k3] at hok
end Go.Proofs.Ytdigpjfgjlhhjaa

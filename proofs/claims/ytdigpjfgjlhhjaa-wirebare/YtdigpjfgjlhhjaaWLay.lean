/- Numbers laid behind one another: what a laying keeps. Contract of wire's layVote. -/
import Derived.Test.YtdigpjfgjlhhjaaWNums2

namespace Go.Proofs.Ytdigpjfgjlhhjaa

open Go.ChangeShapes Go.WideShapes Go.ChangeAt Go.RowKit

set_option linter.unusedVariables false

/-- every block but rows of a type is as it was -/
def KeepT (t : TypeId) (w w' : World) : Prop := ∀ (k : Nat) (o : Obj), w.heap[k]? = some o → (∀ C m, o ≠ Obj.cells C t m) → w'.heap[k]? = some o
theorem KeepT.refl (t : TypeId) (w : World) : KeepT t w w := fun _ _ h _ => h
theorem KeepT.trans {t : TypeId} {a b c : World} (h : KeepT t a b) (k : KeepT t b c) : KeepT t a c := fun i o hi ho => k i o (h i o hi ho) ho
theorem KeepT.of {t : TypeId} {a b c : World} (h : KeepT t a b) (k : Below b.heap.size b c) : KeepT t a c := fun i o hi ho => by
  have h1 := h i o hi ho
  have hlt : i < b.heap.size := by
    rcases Nat.lt_or_ge i b.heap.size with h | h
    · exact h
    · rw [Array.getElem?_eq_none h] at h1; cases h1
  exact (k.block i hlt).trans h1

/-- numbers that were laid into a row of one's own, from base on -/
structure Lay (base : Nat) (w : World) (r : Value) (ns : List Int) (w' : World) : Prop where
  own : OwnsU w' base r ns
  bel : Below base w w'
  keep : KeepT 25 w w'
theorem Lay.refl {base : Nat} {w : World} {r : Value} {ns : List Int} (h : OwnsU w base r ns) : Lay base w r ns w := ⟨h, Below.refl _ _, KeepT.refl _ _⟩
theorem Lay.below {base : Nat} {w w' w'' : World} {r : Value} {ns : List Int} (h : Lay base w r ns w') (hbs : base ≤ w.heap.size) (hb : Below w'.heap.size w' w'') : Lay base w r ns w'' :=
  ⟨h.own.below hb, h.bel.trans (hb.mono (Nat.le_trans hbs h.bel.size)), h.keep.of hb⟩
theorem Lay.alloc {base : Nat} {w w' : World} {r : Value} {ns : List Int} (h : Lay base w r ns w') (hbs : base ≤ w.heap.size) (o : Obj) : Lay base w r ns (w'.alloc o) := h.below hbs (below_alloc _ _)
theorem Lay.trans {base : Nat} {w w' w'' : World} {r r' : Value} {ns ns' : List Int} (h : Lay base w r ns w') (k : Lay base w' r' ns' w'') : Lay base w r' ns' w'' :=
  ⟨k.own, h.bel.trans k.bel, h.keep.trans k.keep⟩
theorem Lay.grown {base : Nat} {w wr w' : World} {r r' : Value} {ns ns' : List Int} {n : Nat} {xs : List Value} (h : Lay base w r ns wr) (hbs : base ≤ w.heap.size) (hg : wr.grownBy w' r.ownBlock) (ho : w'.ownsRow base 25 1 r' n xs) (hn : ns'.length = n) (hx : xs = ns'.map (Value.int .u64)) : Lay base w r' ns' w' := by
  refine ⟨OwnsU.of ho hn hx (Nat.le_refl _), h.bel.grown hg (Nat.le_trans hbs h.bel.size) (fun k hk => (h.own.lt k hk).1), fun k o hk hne => ?_⟩
  have h1 := h.keep k o hk hne
  have hlt : k < wr.heap.size := by
    rcases Nat.lt_or_ge k wr.heap.size with h | h
    · exact h
    · rw [Array.getElem?_eq_none h] at h1; cases h1
  refine (hg.block k hlt ?_).trans h1
  intro e
  rcases h.own.2 with ⟨rfl, _⟩ | ⟨g, cap, cur, rfl, _, hg', _⟩
  · simp [Value.ownBlock] at e
  · simp only [Value.ownBlock, Option.some.injEq] at e
    subst e
    rw [h1] at hg'
    simp only [Option.some.injEq] at hg'
    exact hne _ _ hg'
/-- a variable of the call's own that is no row of numbers -/
theorem Lay.obj {base : Nat} {w w' : World} {r : Value} {ns : List Int} (h : Lay base w r ns w') {k : Nat} {C : Array Value} {t : TypeId} (ho : w.heap[k]? = some (.cells C t (0, 0))) (ht : t ≠ 25) : w'.heap[k]? = some (.cells C t (0, 0)) :=
  h.keep k _ ho fun C' m e => by
    simp only [Obj.cells.injEq] at e
    exact ht e.2.1

theorem owns_as {w : World} {base n : Nat} {r : Value} {ns : List Int} (h : OwnsU w base r ns) (hn : ns.length = n) : w.ownsRow base 25 1 r n (ns.map (Value.int .u64)) := by subst hn; exact h
theorem vote_cells {w : World} {h : Nat} {v : Vt} {ao : Option Addr} {l c : Nat} (o : w.heap[h]? = some (votC v ao l c)) :
    w.cell? ⟨h, 0, none⟩ = some (.int .i64 v.slot) ∧ w.cell? ⟨h, 1, none⟩ = some (.int .u64 v.head) ∧ w.cell? ⟨h, 2, none⟩ = some (.int .i64 v.sE) ∧ w.cell? ⟨h, 3, none⟩ = some (.int .u64 v.sR) ∧
    w.cell? ⟨h, 4, none⟩ = some (.int .i64 v.tE) ∧ w.cell? ⟨h, 5, none⟩ = some (.int .u64 v.tR) ∧ w.cell? ⟨h, 6, none⟩ = some (.slice ao l c) := by
  have hh := fun i => cell_of_row w h i _ _ _ o
  exact ⟨hh 0, hh 1, hh 2, hh 3, hh 4, hh 5, hh 6⟩

theorem Lay.app {base : Nat} {w wr w' : World} {r r' : Value} {ns ns' ys : List Int} {o : Obj} {n : Nat} {xs : List Value} (h : Lay base w r ns wr) (hbs : base ≤ w.heap.size) (hg : (wr.alloc o).grownBy w' r.ownBlock) (ho : w'.ownsRow base 25 1 r' n xs) (hx : xs = (ns ++ ys).map (Value.int .u64)) (he : ns ++ ys = ns') : Lay base w r' ns' w' ∧ ns'.length = n := by
  subst he
  have hl : (ns ++ ys).length = n := by have := ho.1; rw [hx] at this; simpa using this
  exact ⟨(h.alloc hbs o).grown hbs hg ho hl hx, hl⟩

/-- all but who votes -/
def voteHd (v : Vt) : List Int := [u64 v.slot, v.head, u64 v.sE, v.sR, u64 v.tE, v.tR, (v.who.length : Int)]

set_option maxHeartbeats 2000000 in
theorem layVote_any (v : Vt) (cs : List Value) (w0 w : World) (base n d : Nat) (ao : Option Addr) (ns : List Int) (hb : Below w0.heap.size w0 w) (h0 : w0.heap.size ≤ base) (hbs : base ≤ w.heap.size) (h : VoteC w0 cs v) (hl : v.who.length ≤ 4096)
    (hn : ns.length = n) (hn2 : n ≤ 1000000000000) (ho : OwnsU w base (.slice ao n d) ns) :
    Calls Try.prog 30 #[.slice ao n d, .agg cs.toArray] w fun e w' => ∃ ao' n' d', e = .returned (.slice ao' n' d') ∧ Hid ((ns ++ voteNs v).length = n') ∧ Lay base w (.slice ao' n' d') (ns ++ voteNs v) w' := by
  obtain ⟨hw, av, l, c, rfl, hr⟩ := h
  have hlen := hr.len
  have hcap := hr.cap
  unfold maxLen at hcap
  obtain ⟨W0, hW0⟩ : ∃ W, Hid (w.alloc (votC v av l c) = W) := ⟨_, rfl⟩
  have LW : Hid (Lay base w (.slice ao n d) ns W0) := by rw [← hW0.out]; exact (Lay.refl ho).alloc hbs (votC v av l c)
  have L0 := hide (Lay.refl LW.out.own)
  have HR := hide (hr.below (hb.trans (LW.out.bel.mono h0)))
  have h0' : w0.heap.size ≤ base := h0
  have hO : Hid (W0.heap[w.heap.size]? = some (votC v av l c)) := by rw [← hW0.out]; exact heap_alloc_new _ _
  have hne : Hid (34 ≠ 25) := show _ ≠ _ by decide
  have hsW : base ≤ W0.heap.size := Nat.le_trans hbs LW.out.bel.size
  have N0 := hide hn
  obtain ⟨c0, c1, c2, c3, c4, c5, c6⟩ := vote_cells hO.out
  have HW := hide hr
  have HB := hide hb
  clear hw hr ho hb hn
  obtain ⟨i0, hi, hz0, hz1, hz2⟩ := info_parts infoU64
  go_enter Try.func30, Try.ntmps30
  go_upto_region 1 with fail
  rw [hW0.out]
  have hz11 := Nat.le_trans hsW L0.out.bel.size
  go_wp2_with (at_builtin; refine wpList_append_rows _ rfl (.tmp 7) (.tmp 13) 48 rfl base 25 i0 .u64 (.int .u64 0) 8 Try.underlying48 hi hz0 hz1 hz2 rfl (.slice ao n d) (n) (ns) rfl (owns_as (L0.out.alloc hsW _).own N0.out) (some ⟨W0.heap.size, 0, none⟩) 2 2 [_, _] rfl (RowIn.lit .u64 _ _ _ _ _ _ _ [_, _] rfl rfl rfl (by simp [maxLen])) ?c1 ?c2 ?c3 ?_)
  case c1 => unfold maxLen; omega
  case c2 => omega
  case c3 => simp; omega
  intro ao1 d1 w1 hown hgrow
  obtain ⟨ns1, E1⟩ : ∃ x, Hid (ns ++ [u64 v.slot, v.head] = x) := ⟨_, rfl⟩
  have h := Lay.app L0.out hsW hgrow hown (ys := [u64 v.slot, v.head]) (by simp [u64_eq]) E1.out
  have L1 := hide h.1
  have N1 := hide h.2
  obtain ⟨c0, c1, c2, c3, c4, c5, c6⟩ := vote_cells (L1.out.obj hO.out hne.out)
  clear hown hgrow h
  have hz12 := Nat.le_trans hsW L1.out.bel.size
  go_wp2_with (at_builtin; refine wpList_append_rows _ rfl (.tmp 15) (.tmp 23) 48 rfl base 25 i0 .u64 (.int .u64 0) 8 Try.underlying48 hi hz0 hz1 hz2 rfl (.slice ao1 (n + 2) d1) (n + 2) (ns1) rfl (owns_as (L1.out.alloc hsW _).own N1.out) (some ⟨w1.heap.size, 0, none⟩) 2 2 [_, _] rfl (RowIn.lit .u64 _ _ _ _ _ _ _ [_, _] rfl rfl rfl (by simp [maxLen])) ?c1 ?c2 ?c3 ?_)
  case c1 => unfold maxLen; omega
  case c2 => omega
  case c3 => simp; omega
  intro ao2 d2 w2 hown hgrow
  obtain ⟨ns2, E2⟩ : ∃ x, Hid (ns1 ++ [u64 v.sE, v.sR] = x) := ⟨_, rfl⟩
  have h := Lay.app L1.out hsW hgrow hown (ys := [u64 v.sE, v.sR]) (by simp [u64_eq]) E2.out
  have L2 := hide h.1
  have N2 := hide h.2
  obtain ⟨c0, c1, c2, c3, c4, c5, c6⟩ := vote_cells (L2.out.obj hO.out hne.out)
  clear hown hgrow h
  have hz13 := Nat.le_trans hsW L2.out.bel.size
  go_wp2_with (at_builtin; refine wpList_append_rows _ rfl (.tmp 25) (.tmp 33) 48 rfl base 25 i0 .u64 (.int .u64 0) 8 Try.underlying48 hi hz0 hz1 hz2 rfl (.slice ao2 (n + 2 + 2) d2) (n + 2 + 2) (ns2) rfl (owns_as (L2.out.alloc hsW _).own N2.out) (some ⟨w2.heap.size, 0, none⟩) 2 2 [_, _] rfl (RowIn.lit .u64 _ _ _ _ _ _ _ [_, _] rfl rfl rfl (by simp [maxLen])) ?c1 ?c2 ?c3 ?_)
  case c1 => unfold maxLen; omega
  case c2 => omega
  case c3 => simp; omega
  intro ao3 d3 w3 hown hgrow
  obtain ⟨ns3, E3⟩ : ∃ x, Hid (ns2 ++ [u64 v.tE, v.tR] = x) := ⟨_, rfl⟩
  have h := Lay.app L2.out hsW hgrow hown (ys := [u64 v.tE, v.tR]) (by simp [u64_eq]) E3.out
  have L3 := hide h.1
  have N3 := hide h.2
  obtain ⟨c0, c1, c2, c3, c4, c5, c6⟩ := vote_cells (L3.out.obj hO.out hne.out)
  clear hown hgrow h
  have hz14 := Nat.le_trans hsW L3.out.bel.size
  go_wp2_with (at_builtin; refine wpList_append_rows _ rfl (.tmp 35) (.tmp 40) 48 rfl base 25 i0 .u64 (.int .u64 0) 8 Try.underlying48 hi hz0 hz1 hz2 rfl (.slice ao3 (n + 2 + 2 + 2) d3) (n + 2 + 2 + 2) (ns3) rfl (owns_as (L3.out.alloc hsW _).own N3.out) (some ⟨w3.heap.size, 0, none⟩) 1 1 [_] rfl (RowIn.lit .u64 _ _ _ _ _ _ _ [_] rfl rfl rfl (by simp [maxLen])) ?c1 ?c2 ?c3 ?_)
  case c1 => unfold maxLen; omega
  case c2 => omega
  case c3 => simp; omega
  intro ao4 d4 w4 hown hgrow
  obtain ⟨ns4, E4⟩ : ∃ x, Hid (ns3 ++ [(l : Int)] = x) := ⟨_, rfl⟩
  have h := Lay.app L3.out hsW hgrow hown (ys := [(l : Int)]) (by simp) E4.out
  have L4 := hide h.1
  have N4 := hide h.2
  obtain ⟨c0, c1, c2, c3, c4, c5, c6⟩ := vote_cells (L4.out.obj hO.out hne.out)
  clear hown hgrow h
  have E : Hid (ns4 = ns ++ voteHd v) := show _ = _ by rw [← E4.out, ← E3.out, ← E2.out, ← E1.out, ← hlen]; simp [voteHd]
  go_wp2
  go_loopw [0, 45] (fun x i wr => ∃ (k : Nat) (d : Nat) (g : Option Addr), k ≤ l ∧ i = .int .i64 k ∧ x = .slice g (n + 7 + k) d ∧
      Hid ((ns ++ voteHd v ++ (v.who.take k).map u64).length = n + 7 + k ∧ Lay base W0 (.slice g (n + 7 + k) d) (ns ++ voteHd v ++ (v.who.take k).map u64) wr)) (fun _ i _ => l - (intOf i).toNat)
  case atStart =>
    refine ⟨0, d4, ao4, Nat.zero_le _, rfl, ?_, hide ?_⟩
    · congr 1
    · have h1 := L4.out
      have h2 := N4.out
      rw [E.out] at h1 h2
      simp only [List.take_zero, List.map_nil, List.append_nil, Nat.add_zero]
      exact ⟨h2, h1⟩
  case round =>
    obtain ⟨k, d', g, hk, rfl, rfl, hI⟩ := hrel
    have hsr := Nat.le_trans hsW hI.out.2.bel.size
    by_cases hlt : k < l
    · obtain ⟨b, off, rfl, hbs', hcn⟩ := (HW.out.below (HB.out.trans ((LW.out.bel.trans hI.out.2.bel).mono h0))).cell k hlt
      obtain ⟨x, hx⟩ : ∃ x, Hid (v.who.getD k 0 = x) := ⟨_, rfl⟩
      rw [hx.out] at hcn
      obtain ⟨nk, hnk⟩ : ∃ q, Hid (ns ++ voteHd v ++ (v.who.take k).map u64 = q) := ⟨_, rfl⟩
      rw [hnk.out] at hI
      go_wp2_with (at_builtin; refine wpList_append_rows _ rfl (.tmp 49) (.tmp 52) 48 rfl base 25 i0 .u64 (.int .u64 0) 8 Try.underlying48 hi hz0 hz1 hz2 rfl (.slice g (n + 7 + k) d') (n + 7 + k) (nk) rfl (owns_as (hI.out.2.alloc hsW _).own hI.out.1) (some ⟨wr.heap.size, 0, none⟩) 1 1 [_] rfl (RowIn.lit .u64 _ _ _ _ _ _ _ [_] rfl rfl rfl (by simp [maxLen])) ?c1 ?c2 ?c3 ?_)
      case c1 => unfold maxLen; omega
      case c2 => omega
      case c3 => simp; omega
      intro ao5 d5 w5 hown hgrow
      have h := Lay.app hI.out.2 hsW hgrow hown (ys := [u64 x]) (by simp [u64_eq]) rfl
      have e : nk ++ [u64 x] = ns ++ voteHd v ++ (v.who.take (k + 1)).map u64 := by
        rw [← hnk.out, List.take_succ_eq_append_getElem (by omega), ← hx.out, List.getD_eq_getElem?_getD, List.getElem?_eq_getElem (by omega)]
        simp only [List.map_append, List.append_assoc, List.map_cons, List.map_nil, Option.getD_some]
      rw [e] at h
      have hst : Hid ((ns ++ voteHd v ++ (v.who.take (k + 1)).map u64).length = n + 7 + (k + 1) ∧ Lay base W0 (.slice ao5 (n + 7 + (k + 1)) d5) (ns ++ voteHd v ++ (v.who.take (k + 1)).map u64) w5) := ⟨h.2, h.1⟩
      clear hown hgrow h hI
      go_wp2
      go_roundw
      case rel => exact ⟨k + 1, d5, ao5, by omega, by go_num, by congr 1, hst⟩
      case measure => simp [intOf]; omega
    · have : k = l := by omega
      subst this
      rw [List.take_of_length_le (by omega)] at hI
      have e : Hid (ns ++ voteHd v ++ v.who.map u64 = ns ++ voteNs v) := show _ = _ by simp [voteNs, voteHd]
      rw [e.out] at hI
      go_wp2
      go_ret
      exact ⟨_, _, _, rfl, hide hI.out.1, LW.out.trans hI.out.2⟩
end Go.Proofs.Ytdigpjfgjlhhjaa

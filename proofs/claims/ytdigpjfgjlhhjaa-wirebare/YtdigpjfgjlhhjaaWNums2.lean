/- Contract of psephoslaw04's numbers, of a block; and of any event that has bytes. -/
import Derived.Test.YtdigpjfgjlhhjaaWNums

namespace Go.Proofs.Ytdigpjfgjlhhjaa

open Go.ChangeShapes Go.WideShapes Go.ChangeAt Go.RowKit

set_option linter.unusedVariables false

/-- the block's copy, the numbers so far, and all that was there -/
structure NB (w : World) (C : Array Value) (r : Value) (ns : List Int) (wr : World) : Prop where
  obj : wr.heap[w.heap.size + 1 + 1]? = some (.cells C 29 (0, 0))
  own : wr.ownsRow (w.heap.size + 1) 25 1 r ns.length (ns.map (Value.int .u64))
  bel : Below w.heap.size w wr
  size : w.heap.size + 3 ≤ wr.heap.size
theorem NB.below {w : World} {C : Array Value} {r : Value} {ns : List Int} {wr w' : World} (h : NB w C r ns wr) (hb : Below wr.heap.size wr w') : NB w C r ns w' :=
  ⟨(hb.block _ (by have := h.size; omega)).trans h.obj, owns_below h.own hb, h.bel.trans (hb.mono h.bel.size), Nat.le_trans h.size hb.size⟩
theorem NB.alloc {w : World} {C : Array Value} {r : Value} {ns : List Int} {wr : World} (h : NB w C r ns wr) (o : Obj) : NB w C r ns (wr.alloc o) := h.below (below_alloc _ _)
theorem NB.ne {w : World} {C : Array Value} {r : Value} {ns : List Int} {wr : World} (h : NB w C r ns wr) : some (w.heap.size + 1 + 1) ≠ r.ownBlock := by
  intro e
  rcases h.own.2 with ⟨rfl, _⟩ | ⟨g, cap, cur, rfl, _, hg, _⟩
  · simp [Value.ownBlock] at e
  · simp only [Value.ownBlock, Option.some.injEq] at e
    subst e
    rw [h.obj] at hg
    simp at hg
theorem NB.grown {w : World} {C : Array Value} {r r' : Value} {ns ns' : List Int} {wr w' : World} {n : Nat} {xs : List Value} (h : NB w C r ns wr) (hg : wr.grownBy w' r.ownBlock) (ho : w'.ownsRow (w.heap.size + 1) 25 1 r' n xs) (hn : ns'.length = n) (hx : xs = ns'.map (Value.int .u64)) : NB w C r' ns' w' := by
  refine ⟨(hg.block _ (by have := h.size; omega) h.ne).trans h.obj, ?_, h.bel.grown hg h.bel.size (fun k hk => by have := (h.own.lt k hk).1; omega), Nat.le_trans h.size hg.size⟩
  subst hn hx
  exact ho
theorem NB.cell {w : World} {C : Array Value} {r : Value} {ns : List Int} {wr : World} (h : NB w C r ns wr) (i : Nat) : wr.cell? ⟨w.heap.size + 1 + 1, i, none⟩ = C[i]? := cell_of_row _ _ i _ _ _ h.obj

/-- a proof of a row; its votes as they lay -/
theorem proof_at0 {w wr : World} {ao : Option Addr} {l c : Nat} {ps : List Pf} (H : RowsIn (ProofC w) 14 w ao l c ps) (hb : Below w.heap.size w wr) (k : Nat) (hk : k < ps.length) :
    ∃ b off av lv cv aw lw cw, ao = some ⟨b, off, none⟩ ∧ b < w.heap.size ∧ VoteC w (vtCs ps[k].a av lv cv) ps[k].a ∧ VoteC w (vtCs ps[k].b aw lw cw) ps[k].b ∧
      wr.cell? ⟨b, off + k * 14, none⟩ = some (.int .i64 ps[k].a.slot) ∧
      wr.cell? ⟨b, off + k * 14 + 1, none⟩ = some (.int .u64 ps[k].a.head) ∧
      wr.cell? ⟨b, off + k * 14 + 2, none⟩ = some (.int .i64 ps[k].a.sE) ∧
      wr.cell? ⟨b, off + k * 14 + 3, none⟩ = some (.int .u64 ps[k].a.sR) ∧
      wr.cell? ⟨b, off + k * 14 + 4, none⟩ = some (.int .i64 ps[k].a.tE) ∧
      wr.cell? ⟨b, off + k * 14 + 5, none⟩ = some (.int .u64 ps[k].a.tR) ∧
      wr.cell? ⟨b, off + k * 14 + 6, none⟩ = some (.slice av lv cv) ∧
      wr.cell? ⟨b, off + k * 14 + 7, none⟩ = some (.int .i64 ps[k].b.slot) ∧
      wr.cell? ⟨b, off + k * 14 + 8, none⟩ = some (.int .u64 ps[k].b.head) ∧
      wr.cell? ⟨b, off + k * 14 + 9, none⟩ = some (.int .i64 ps[k].b.sE) ∧
      wr.cell? ⟨b, off + k * 14 + 10, none⟩ = some (.int .u64 ps[k].b.sR) ∧
      wr.cell? ⟨b, off + k * 14 + 11, none⟩ = some (.int .i64 ps[k].b.tE) ∧
      wr.cell? ⟨b, off + k * 14 + 12, none⟩ = some (.int .u64 ps[k].b.tR) ∧
      wr.cell? ⟨b, off + k * 14 + 13, none⟩ = some (.slice aw lw cw) := by
  obtain ⟨b, off, cs, e, hbs, hcl, hcc, x, y, rfl, hv, hw⟩ := H.row k hk
  obtain ⟨av, lv, cv, rfl, hv⟩ := hv.out
  obtain ⟨aw, lw, cw, rfl, hw⟩ := hw.out
  generalize ps[k] = p at *
  have x0 := (hb.cell (p := ⟨b, off + (k * 14 + 0), none⟩) hbs).trans (hcc 0 (by omega))
  have x1 := (hb.cell (p := ⟨b, off + (k * 14 + 1), none⟩) hbs).trans (hcc 1 (by omega))
  have x2 := (hb.cell (p := ⟨b, off + (k * 14 + 2), none⟩) hbs).trans (hcc 2 (by omega))
  have x3 := (hb.cell (p := ⟨b, off + (k * 14 + 3), none⟩) hbs).trans (hcc 3 (by omega))
  have x4 := (hb.cell (p := ⟨b, off + (k * 14 + 4), none⟩) hbs).trans (hcc 4 (by omega))
  have x5 := (hb.cell (p := ⟨b, off + (k * 14 + 5), none⟩) hbs).trans (hcc 5 (by omega))
  have x6 := (hb.cell (p := ⟨b, off + (k * 14 + 6), none⟩) hbs).trans (hcc 6 (by omega))
  have x7 := (hb.cell (p := ⟨b, off + (k * 14 + 7), none⟩) hbs).trans (hcc 7 (by omega))
  have x8 := (hb.cell (p := ⟨b, off + (k * 14 + 8), none⟩) hbs).trans (hcc 8 (by omega))
  have x9 := (hb.cell (p := ⟨b, off + (k * 14 + 9), none⟩) hbs).trans (hcc 9 (by omega))
  have x10 := (hb.cell (p := ⟨b, off + (k * 14 + 10), none⟩) hbs).trans (hcc 10 (by omega))
  have x11 := (hb.cell (p := ⟨b, off + (k * 14 + 11), none⟩) hbs).trans (hcc 11 (by omega))
  have x12 := (hb.cell (p := ⟨b, off + (k * 14 + 12), none⟩) hbs).trans (hcc 12 (by omega))
  have x13 := (hb.cell (p := ⟨b, off + (k * 14 + 13), none⟩) hbs).trans (hcc 13 (by omega))
  simp only [List.cons_append, List.nil_append, List.getElem?_cons_zero, List.getElem?_cons_succ, ← Nat.add_assoc, Nat.add_zero] at x0 x1 x2 x3 x4 x5 x6 x7 x8 x9 x10 x11 x12 x13
  exact ⟨b, off, av, lv, cv, aw, lw, cw, e, hbs, hv, hw, x0, x1, x2, x3, x4, x5, x6, x7, x8, x9, x10, x11, x12, x13⟩

theorem owns_ne {wr : World} {base n h : Nat} {r : Value} {xs : List Value} {C : Array Value} {t : TypeId} (own : wr.ownsRow base 25 1 r n xs) (obj : wr.heap[h]? = some (.cells C t (0, 0))) (ht : t ≠ 25) : some h ≠ r.ownBlock := by
  intro e
  rcases own.2 with ⟨rfl, _⟩ | ⟨g, cap, cur, rfl, _, hg, _⟩
  · simp [Value.ownBlock] at e
  · simp only [Value.ownBlock, Option.some.injEq] at e
    subst e
    rw [obj] at hg
    simp only [Option.some.injEq, Obj.cells.injEq] at hg
    exact ht hg.2.1
theorem fm_snoc {α : Type} (l : List α) (f : α → List Int) (k : Nat) (h : k < l.length) : (l.take (k + 1)).flatMap f = (l.take k).flatMap f ++ f l[k] := by
  rw [List.take_succ_eq_append_getElem h, List.flatMap_append]
  simp

def bk1 (bk : Bk) : List Int := [1, bk.root, bk.parent, u64 bk.slot, (bk.votes.length : Int), (bk.proofs.length : Int)]
theorem bkB_of {bk : Bk} (h : bkB bk = true) : bk.votes.length ≤ 16 ∧ bk.proofs.length ≤ 16 ∧ (∀ v ∈ bk.votes, v.who.length ≤ 4096) ∧ ∀ p ∈ bk.proofs, p.a.who.length ≤ 4096 ∧ p.b.who.length ≤ 4096 := by
  simp only [bkB, bk0, Bool.and_eq_true, decide_eq_true_eq, List.all_eq_true, pfB] at h
  exact ⟨h.1.1.2.1, h.1.1.2.2, fun v hv => fitsB_len (h.1.2 v hv), fun p hp => ⟨fitsB_len (h.2 p hp).1, fitsB_len (h.2 p hp).2⟩⟩

set_option maxHeartbeats 2000000 in
theorem lnum_block (es : Int) (bk : Bk) (vt : Vt) (pf : Pf) (w : World) (a1 : Option Addr) (l1 c1 : Nat) (a2 : Option Addr) (l2 c2 : Nat) (a3 : Option Addr) (l3 c3 : Nat) (a4 : Option Addr) (l4 c4 : Nat) (a5 : Option Addr) (l5 c5 : Nat)
    (HV : RowsIn (VoteC w) 7 w a1 l1 c1 bk.votes) (HP : RowsIn (ProofC w) 14 w a2 l2 c2 bk.proofs) (hok : bkB bk = true) :
    Calls Try.prog 11 #[.agg (evCs 1 es bk vt pf a1 l1 c1 a2 l2 c2 a3 l3 c3 a4 l4 c4 a5 l5 c5)] w fun e w' => ∃ r, e = .returned r ∧ OwnsU w' w.heap.size r (bk1 bk ++ bk.votes.flatMap voteNs ++ bk.proofs.flatMap pfNs) ∧ Below w.heap.size w w' := by
  obtain ⟨i0, hi, hz0, hz1, hz2⟩ := info_parts infoU64
  obtain ⟨hv16, hp16, hvl, hpl⟩ := bkB_of hok
  have hn1 := HV.len
  have hn2 := HP.len
  have hb1 : (l1 : Int) ≤ 16 := by omega
  have hb2 : (l2 : Int) ≤ 16 := by omega
  have H := hide HV
  have K := hide HP
  have HVL := hide hvl
  have HPL := hide hpl
  have u1 : IntKind.u64.wrap 1 = 1 := by rw [IntKind.wrap_u64]; rfl
  have ul1 : IntKind.u64.wrap (l1 : Int) = (l1 : Int) := by rw [IntKind.wrap_u64]; omega
  have ul2 : IntKind.u64.wrap (l2 : Int) = (l2 : Int) := by rw [IntKind.wrap_u64]; omega
  have hown := owns_lit (w.alloc (.cells (evCs 1 es bk vt pf a1 l1 c1 a2 l2 c2 a3 l3 c3 a4 l4 c4 a5 l5 c5) 38)) #[.int .u64 1] [1] (w.heap.size + 1) (w.heap.size + 1) 1 rfl (by simp) rfl (by omega) (by simp [maxLen])
  have HO := hide hown
  clear HV HP hvl hpl hok hown
  have hlb : bk1 bk = [1] ++ [bk.root, bk.parent, IntKind.u64.wrap bk.slot, (l1 : Int), (l2 : Int)] := by simp [bk1, u64_eq, hn1, hn2]
  have HL := hide hlb
  clear hlb hv16 hp16
  go_enter Try.func11, Try.ntmps11
  go_wp2_with (at_builtin; refine wpList_append_rows _ rfl (.tmp 45) (.tmp 61) 48 rfl (w.heap.size + 1) 25 i0 .u64 (.int .u64 0) 8 Try.underlying48 hi hz0 hz1 hz2 rfl (.slice (some ⟨w.heap.size + 1, 0, none⟩) 1 1) 1 [1] rfl ((HO.out.alloc _).alloc _) (some ⟨w.heap.size + 1 + 1 + 1, 0, none⟩) 5 5 [bk.root, bk.parent, IntKind.u64.wrap bk.slot, (l1 : Int), (l2 : Int)] rfl (RowIn.lit .u64 _ _ _ _ _ _ _ [bk.root, bk.parent, IntKind.u64.wrap bk.slot, (l1 : Int), (l2 : Int)] (by simp) rfl rfl (by simp [maxLen])) ?c1 ?c2 ?c3 ?_)
  case c1 => simp [maxLen]
  case c2 => omega
  case c3 => simp
  intro ao4 d4 w4 hown4 hgrow4
  obtain ⟨C, hC⟩ : ∃ C, Hid (#[Value.int .u64 bk.root, .int .u64 bk.parent, .int .i64 bk.slot, .slice a1 l1 c1, .slice a2 l2 c2] = C) := ⟨_, rfl⟩
  have hNB : NB w C (.slice ao4 6 d4) (bk1 bk) w4 := by
    have h0 : NB w C (.slice (some ⟨w.heap.size + 1, 0, none⟩) 1 1) [1] ((((w.alloc (.cells (evCs 1 es bk vt pf a1 l1 c1 a2 l2 c2 a3 l3 c3 a4 l4 c4 a5 l5 c5) 38)).alloc (.cells #[.int .u64 1] 25)).alloc (.cells C 29)).alloc (.cells #[.int .u64 bk.root, .int .u64 bk.parent, .int .u64 (IntKind.u64.wrap bk.slot), .int .u64 l1, .int .u64 l2] 25)) := by
      refine ⟨?_, (HO.out.alloc _).alloc _, (((below_alloc w _).alloc (by simp) _).alloc (by simp; omega) _).alloc (by simp; omega) _, by simp⟩
      rw [Below.heap_alloc _ _ _ (by simp)]
      have := heap_alloc_new ((w.alloc (.cells (evCs 1 es bk vt pf a1 l1 c1 a2 l2 c2 a3 l3 c3 a4 l4 c4 a5 l5 c5) 38)).alloc (.cells #[.int .u64 1] 25)) (.cells C 29)
      simpa using this
    rw [← hC.out] at h0 ⊢
    exact h0.grown hgrow4 hown4 (by rw [HL.out]; rfl) (by rw [HL.out]; rfl)
  have e3 : w4.cell? ⟨w.heap.size + 1 + 1, 3, none⟩ = some (.slice a1 l1 c1) := by rw [hNB.cell, ← hC.out]; rfl
  have H0 := hide hNB
  clear hNB hown4 hgrow4 HO
  go_wp2
  go_loopw [3, 66] (fun x i wr => ∃ (k : Nat) (ao : Option Addr) (n d : Nat), k ≤ l1 ∧ i = .int .i64 k ∧ x = .slice ao n d ∧ n ≤ 6 + 4103 * k ∧ Hid ((bk1 bk ++ (bk.votes.take k).flatMap voteNs).length = n ∧ NB w C (.slice ao n d) (bk1 bk ++ (bk.votes.take k).flatMap voteNs) wr)) (fun _ i _ => l1 - (intOf i).toNat)
  case atStart => exact ⟨0, ao4, 6, d4, Nat.zero_le _, rfl, rfl, by omega, hide ⟨by simp [bk1], by simpa using H0.out⟩⟩
  case round =>
    clear e3 H0
    obtain ⟨k, ao, n, d, hk, rfl, rfl, hnb, hI⟩ := hrel
    by_cases hlt : k < l1
    · obtain ⟨b, off, av, lv, cv, rfl, hbs, hvc, x0, x1, x2, x3, x4, x5, x6⟩ := vote_at H.out hI.out.2.bel k (by omega)
      have hf := fm_snoc bk.votes voteNs k (by omega)
      have hm := HVL.out _ (List.getElem_mem (show k < bk.votes.length by omega))
      obtain ⟨v, hgv⟩ : ∃ v, Hid (bk.votes[k] = v) := ⟨_, hide rfl⟩
      rw [hgv.out] at x0 x1 x2 x3 x4 x5 hf hvc hm
      have HVC := hide hvc
      have HF := hide hf
      clear hf hvc
      go_wp2_with fail
      refine (lvote_row v _ _ (HVC.out.below (below_alloc _ _)) hm).mono ?_
      rintro r w1 ⟨ao1, m1, d1, rfl, hm1, hmb1, hrow1, hb1⟩
      have HN1 := hide ((hI.out.2.alloc (.cells (vtCs v av lv cv).toArray 34)).below hb1)
      have HR1 := hide hrow1
      have hlen := hI.out.1
      have HLn := hide hlen
      clear hb1 hrow1 hI hlen
      have hown1 := HN1.out.own
      rw [HLn.out] at hown1
      have HO1 := hide hown1
      have hs1 := HN1.out.size
      clear hown1
      go_wp2_with (at_builtin; refine wpList_append_rows _ rfl (.tmp 70) (.tmp 72) 48 rfl (w.heap.size + 1) 25 i0 .u64 (.int .u64 0) 8 Try.underlying48 hi hz0 hz1 hz2 rfl (.slice ao n d) n (bk1 bk ++ (bk.votes.take k).flatMap voteNs) rfl HO1.out ao1 m1 d1 (voteNs v) rfl HR1.out ?c1 ?c2 ?c3 ?_)
      case c1 => unfold maxLen; omega
      case c2 => omega
      case c3 => omega
      intro ao2 d2 w2 hown2 hgrow2
      have hst : Hid ((bk1 bk ++ (bk.votes.take (k + 1)).flatMap voteNs).length = n + m1 ∧ NB w C (.slice ao2 (n + m1) d2) (bk1 bk ++ (bk.votes.take (k + 1)).flatMap voteNs) w2) := by
        have e : (bk1 bk ++ (bk.votes.take (k + 1)).flatMap voteNs).length = n + m1 := by rw [HF.out, ← List.append_assoc, List.length_append, HLn.out, hm1.out]
        refine hide ⟨e, HN1.out.grown hgrow2 hown2 e ?_⟩
        rw [HF.out]
        simp
      clear hown2 hgrow2
      go_wp2
      go_roundw
      case rel => exact ⟨k + 1, ao2, n + m1, d2, by omega, by go_num, rfl, by omega, hst⟩
      case measure => simp [intOf]; omega
    · have : k = l1 := by omega
      subst this
      rw [List.take_of_length_le (by omega)] at hI
      have e4 : wr.cell? ⟨w.heap.size + 1 + 1, 4, none⟩ = some (.slice a2 l2 c2) := by rw [hI.out.2.cell, ← hC.out]; rfl
      have HE := hide hI.out.1
      have HI := hide hI.out.2
      clear hI
      obtain ⟨N1, hN1⟩ : ∃ N, Hid (bk1 bk ++ bk.votes.flatMap voteNs = N) := ⟨_, rfl⟩
      rw [hN1.out] at HE HI
      go_wp2
      go_loopw [3, 78] (fun x i wr => ∃ (j : Nat) (ao : Option Addr) (n d : Nat), j ≤ l2 ∧ i = .int .i64 j ∧ x = .slice ao n d ∧ n ≤ 65654 + 8206 * j ∧ Hid ((N1 ++ (bk.proofs.take j).flatMap pfNs).length = n ∧ NB w C (.slice ao n d) (N1 ++ (bk.proofs.take j).flatMap pfNs) wr)) (fun _ i _ => l2 - (intOf i).toNat)
      case atStart => exact ⟨0, ao, n, d, Nat.zero_le _, rfl, rfl, by omega, hide ⟨by simpa using HE.out, by simpa using HI.out⟩⟩
      case round =>
        clear HE HI e4
        obtain ⟨j, ao, n, d, hj, rfl, rfl, hnb, hI⟩ := hrel
        by_cases hlt : j < l2
        · obtain ⟨b, off, av, lv, cv, aw, lw, cw, rfl, hbs, hva, hvb, x0, x1, x2, x3, x4, x5, x6, y0, y1, y2, y3, y4, y5, y6⟩ := proof_at0 K.out hI.out.2.bel j (by omega)
          have hf := fm_snoc bk.proofs pfNs j (by omega)
          have hm := HPL.out _ (List.getElem_mem (show j < bk.proofs.length by omega))
          obtain ⟨p, hgp⟩ : ∃ v, Hid (bk.proofs[j] = v) := ⟨_, hide rfl⟩
          rw [hgp.out] at x0 x1 x2 x3 x4 x5 y0 y1 y2 y3 y4 y5 hf hva hvb hm
          have HVA := hide hva
          have HVB := hide hvb
          have HF := hide hf
          clear hf hva hvb
          go_wp2
          obtain ⟨wa, hwa⟩ : ∃ x, Hid (wr.alloc (.cells #[.int .i64 p.a.slot, .int .u64 p.a.head, .int .i64 p.a.sE, .int .u64 p.a.sR, .int .i64 p.a.tE, .int .u64 p.a.tR, .slice av lv cv, .int .i64 p.b.slot, .int .u64 p.b.head, .int .i64 p.b.sE, .int .u64 p.b.sR, .int .i64 p.b.tE, .int .u64 p.b.tR, .slice aw lw cw] 36) = x) := ⟨_, rfl⟩
          rw [hwa.out]
          have hNBa : NB w C (.slice ao n d) (N1 ++ (bk.proofs.take j).flatMap pfNs) wa := by rw [← hwa.out]; exact hI.out.2.alloc _
          have hpva : wa.heap[wr.heap.size]? = some (.cells #[.int .i64 p.a.slot, .int .u64 p.a.head, .int .i64 p.a.sE, .int .u64 p.a.sR, .int .i64 p.a.tE, .int .u64 p.a.tR, .slice av lv cv, .int .i64 p.b.slot, .int .u64 p.b.head, .int .i64 p.b.sE, .int .u64 p.b.sR, .int .i64 p.b.tE, .int .u64 p.b.tR, .slice aw lw cw] 36 (0, 0)) := by rw [← hwa.out]; exact heap_alloc_new _ _
          have hlta : wr.heap.size < wa.heap.size := by rw [← hwa.out]; simp
          have hcs : Hid (∀ w' : World, w'.heap[wr.heap.size]? = some (.cells #[.int .i64 p.a.slot, .int .u64 p.a.head, .int .i64 p.a.sE, .int .u64 p.a.sR, .int .i64 p.a.tE, .int .u64 p.a.tR, .slice av lv cv, .int .i64 p.b.slot, .int .u64 p.b.head, .int .i64 p.b.sE, .int .u64 p.b.sR, .int .i64 p.b.tE, .int .u64 p.b.tR, .slice aw lw cw] 36 (0, 0)) → w'.cell? ⟨wr.heap.size, 0, none⟩ = some (.int .i64 p.a.slot) ∧ w'.cell? ⟨wr.heap.size, 1, none⟩ = some (.int .u64 p.a.head) ∧ w'.cell? ⟨wr.heap.size, 2, none⟩ = some (.int .i64 p.a.sE) ∧ w'.cell? ⟨wr.heap.size, 3, none⟩ = some (.int .u64 p.a.sR) ∧ w'.cell? ⟨wr.heap.size, 4, none⟩ = some (.int .i64 p.a.tE) ∧ w'.cell? ⟨wr.heap.size, 5, none⟩ = some (.int .u64 p.a.tR) ∧ w'.cell? ⟨wr.heap.size, 6, none⟩ = some (.slice av lv cv) ∧ w'.cell? ⟨wr.heap.size, 7, none⟩ = some (.int .i64 p.b.slot) ∧ w'.cell? ⟨wr.heap.size, 8, none⟩ = some (.int .u64 p.b.head) ∧ w'.cell? ⟨wr.heap.size, 9, none⟩ = some (.int .i64 p.b.sE) ∧ w'.cell? ⟨wr.heap.size, 10, none⟩ = some (.int .u64 p.b.sR) ∧ w'.cell? ⟨wr.heap.size, 11, none⟩ = some (.int .i64 p.b.tE) ∧ w'.cell? ⟨wr.heap.size, 12, none⟩ = some (.int .u64 p.b.tR) ∧ w'.cell? ⟨wr.heap.size, 13, none⟩ = some (.slice aw lw cw)) := fun w' h => by
            have hh := fun i => cell_of_row w' wr.heap.size i _ _ _ h
            exact ⟨hh 0, hh 1, hh 2, hh 3, hh 4, hh 5, hh 6, hh 7, hh 8, hh 9, hh 10, hh 11, hh 12, hh 13⟩
          have HE := hide hI.out.1
          have NBd := hide (hNBa.below (Below.refl _ _).drew)
          have pvd : Hid (wa.drew.heap[wr.heap.size]? = some (.cells #[.int .i64 p.a.slot, .int .u64 p.a.head, .int .i64 p.a.sE, .int .u64 p.a.sR, .int .i64 p.a.tE, .int .u64 p.a.tR, .slice av lv cv, .int .i64 p.b.slot, .int .u64 p.b.head, .int .i64 p.b.sE, .int .u64 p.b.sR, .int .i64 p.b.tE, .int .u64 p.b.tR, .slice aw lw cw] 36 (0, 0))) := hpva
          have hltd : wr.heap.size < wa.drew.heap.size := hlta
          obtain ⟨q0, q1, q2, q3, q4, q5, q6, q7, q8, q9, q10, q11, q12, q13⟩ := hcs.out wa hpva
          clear hNBa hpva hI x0 x1 x2 x3 x4 x5 x6 y0 y1 y2 y3 y4 y5 y6
          go_region_held3 (fun w' => w'.cell? ⟨wr.heap.size, 0, none⟩ = some (.int .i64 p.a.slot) ∧ w'.cell? ⟨wr.heap.size, 1, none⟩ = some (.int .u64 p.a.head) ∧ w'.cell? ⟨wr.heap.size, 2, none⟩ = some (.int .i64 p.a.sE) ∧ w'.cell? ⟨wr.heap.size, 3, none⟩ = some (.int .u64 p.a.sR) ∧ w'.cell? ⟨wr.heap.size, 4, none⟩ = some (.int .i64 p.a.tE) ∧ w'.cell? ⟨wr.heap.size, 5, none⟩ = some (.int .u64 p.a.tR) ∧ w'.cell? ⟨wr.heap.size, 6, none⟩ = some (.slice av lv cv) ∧ w'.cell? ⟨wr.heap.size, 7, none⟩ = some (.int .i64 p.b.slot) ∧ w'.cell? ⟨wr.heap.size, 8, none⟩ = some (.int .u64 p.b.head) ∧ w'.cell? ⟨wr.heap.size, 9, none⟩ = some (.int .i64 p.b.sE) ∧ w'.cell? ⟨wr.heap.size, 10, none⟩ = some (.int .u64 p.b.sR) ∧ w'.cell? ⟨wr.heap.size, 11, none⟩ = some (.int .i64 p.b.tE) ∧ w'.cell? ⟨wr.heap.size, 12, none⟩ = some (.int .u64 p.b.tR) ∧ w'.cell? ⟨wr.heap.size, 13, none⟩ = some (.slice aw lw cw))
            (first
              | exact hcs.out _ pv4.out
              | exact hcs.out _ pv3.out
              | exact hcs.out _ pv2.out
              | exact hcs.out _ pv1.out
              | exact hcs.out _ pvd.out
              | go_keep)
            (first
              | (refine step_append_rows rfl (.tmp 86) (.tmp 89) 48 rfl (w.heap.size + 1) 25 i0 .u64 (.int .u64 0) 8 Try.underlying48 hi hz0 hz1 hz2 rfl (.slice ao2 (n + n1) d2) (n + n1) (N1 ++ (bk.proofs.take j).flatMap pfNs ++ voteNs p.a) rfl HO3.out ao3 n3 d3 (voteNs p.b) rfl HR3.out (by unfold maxLen; omega) (by omega) (by have := NB3.out.size; omega) ?_
                 intro ao4 d4 w4 hown4 hgrow4
                 have e4 : (N1 ++ (bk.proofs.take (j + 1)).flatMap pfNs).length = n + n1 + n3 := by rw [HF.out, ← List.append_assoc, List.length_append, HE.out, pfNs, List.length_append, hm1.out, hm3.out, Nat.add_assoc]
                 have NB4 : Hid ((N1 ++ (bk.proofs.take (j + 1)).flatMap pfNs).length = n + n1 + n3 ∧ NB w C (.slice ao4 (n + n1 + n3) d4) (N1 ++ (bk.proofs.take (j + 1)).flatMap pfNs) w4) := hide ⟨e4, NB3.out.grown hgrow4 hown4 e4 (by rw [HF.out, pfNs]; simp)⟩
                 have pv4 : Hid (w4.heap[wr.heap.size]? = some (.cells #[.int .i64 p.a.slot, .int .u64 p.a.head, .int .i64 p.a.sE, .int .u64 p.a.sR, .int .i64 p.a.tE, .int .u64 p.a.tR, .slice av lv cv, .int .i64 p.b.slot, .int .u64 p.b.head, .int .i64 p.b.sE, .int .u64 p.b.sR, .int .i64 p.b.tE, .int .u64 p.b.tR, .slice aw lw cw] 36 (0, 0))) := (hgrow4.block _ hlt3 (owns_ne NB3.out.own pv3.out (by decide))).trans pv3.out
                 clear hown4 hgrow4 e4)
              | (go_at_call_of 19 (Value.int .u64 p.b.head)
                 refine (lvote_row p.b _ w2 (HVB.out.below NB2.out.bel) hm.2).mono ?_
                 rintro e w3 ⟨ao3, n3, d3, rfl, hm3, hmb3, hrow3, hb⟩
                 have NB3 := hide (NB2.out.below hb)
                 have pv3 : Hid (w3.heap[wr.heap.size]? = some (.cells #[.int .i64 p.a.slot, .int .u64 p.a.head, .int .i64 p.a.sE, .int .u64 p.a.sR, .int .i64 p.a.tE, .int .u64 p.a.tR, .slice av lv cv, .int .i64 p.b.slot, .int .u64 p.b.head, .int .i64 p.b.sE, .int .u64 p.b.sR, .int .i64 p.b.tE, .int .u64 p.b.tR, .slice aw lw cw] 36 (0, 0))) := (hb.block _ hlt2).trans pv2.out
                 have hlt3 : wr.heap.size < w3.heap.size := Nat.lt_of_lt_of_le hlt2 hb.size
                 have HO3 := hide (owns_below HO2.out hb)
                 have HR3 := hide hrow3
                 clear hb hrow3)
              | (refine step_append_rows rfl (.tmp 82) (.tmp 85) 48 rfl (w.heap.size + 1) 25 i0 .u64 (.int .u64 0) 8 Try.underlying48 hi hz0 hz1 hz2 rfl (.slice ao n d) n (N1 ++ (bk.proofs.take j).flatMap pfNs) rfl HO1.out ao1 n1 d1 (voteNs p.a) rfl HR1.out (by unfold maxLen; omega) (by omega) (by have := NB1.out.size; omega) ?_
                 intro ao2 d2 w2 hown2 hgrow2
                 have NB2 : Hid (NB w C (.slice ao2 (n + n1) d2) (N1 ++ (bk.proofs.take j).flatMap pfNs ++ voteNs p.a) w2) := NB1.out.grown hgrow2 hown2 (by rw [List.length_append, HE.out, hm1.out]) (by simp)
                 have pv2 : Hid (w2.heap[wr.heap.size]? = some (.cells #[.int .i64 p.a.slot, .int .u64 p.a.head, .int .i64 p.a.sE, .int .u64 p.a.sR, .int .i64 p.a.tE, .int .u64 p.a.tR, .slice av lv cv, .int .i64 p.b.slot, .int .u64 p.b.head, .int .i64 p.b.sE, .int .u64 p.b.sR, .int .i64 p.b.tE, .int .u64 p.b.tR, .slice aw lw cw] 36 (0, 0))) := (hgrow2.block _ hlt1 (owns_ne NB1.out.own pv1.out (by decide))).trans pv1.out
                 have hlt2 : wr.heap.size < w2.heap.size := Nat.lt_of_lt_of_le hlt1 hgrow2.size
                 have HO2 := hide hown2
                 clear hown2 hgrow2)
              | (go_at_call_of 19 (Value.int .u64 p.a.head)
                 refine (lvote_row p.a _ wa.drew (HVA.out.below NBd.out.bel) hm.1).mono ?_
                 rintro e w1 ⟨ao1, n1, d1, rfl, hm1, hmb1, hrow1, hb⟩
                 have NB1 := hide (NBd.out.below hb)
                 have pv1 : Hid (w1.heap[wr.heap.size]? = some (.cells #[.int .i64 p.a.slot, .int .u64 p.a.head, .int .i64 p.a.sE, .int .u64 p.a.sR, .int .i64 p.a.tE, .int .u64 p.a.tR, .slice av lv cv, .int .i64 p.b.slot, .int .u64 p.b.head, .int .i64 p.b.sE, .int .u64 p.b.sR, .int .i64 p.b.tE, .int .u64 p.b.tR, .slice aw lw cw] 36 (0, 0))) := (hb.block _ hltd).trans pvd.out
                 have hlt1 : wr.heap.size < w1.heap.size := Nat.lt_of_lt_of_le hltd hb.size
                 have hown1 := NB1.out.own
                 rw [HE.out] at hown1
                 have HO1 := hide hown1
                 have HR1 := hide hrow1
                 clear hb hrow1 hown1))
          all_goals
            go_wp2
            go_roundw
            case rel => exact ⟨j + 1, ao4, n + n1 + n3, d4, by omega, by go_num, rfl, by omega, NB4⟩
            case measure => simp [intOf]; omega
        · have : j = l2 := by omega
          subst this
          rw [List.take_of_length_le (by omega)] at hI
          go_wp2
          go_ret
          exact ⟨_, rfl, OwnsU.of hI.out.2.own (by rw [← hN1.out]) (by rw [← hN1.out]) (Nat.le_succ _), hI.out.2.bel⟩

/-- the numbers of an event that has bytes -/
theorem lnum_any (e : Ev) (cs : List Value) (w : World) (h : EventC w cs e) (hok : evB e = true) :
    Calls Try.prog 11 #[.agg cs.toArray] w fun r w' => ∃ v, r = .returned v ∧ OwnsU w' w.heap.size v (evNs e) ∧ Below w.heap.size w w' := by
  obtain ⟨a1, l1, c1, a2, l2, c2, a3, l3, c3, a4, l4, c4, a5, l5, c5, hE⟩ := h.out
  obtain ⟨hc, _, _, _, hV, hP, hv, ha, hb⟩ := hE
  obtain ⟨kd, es, bk, vt, pf⟩ := e
  subst hc
  by_cases k0 : kd = 0
  · subst k0
    exact lnum_tick es bk vt pf w a1 l1 c1 a2 l2 c2 a3 l3 c3 a4 l4 c4 a5 l5 c5
  by_cases k2 : kd = 2
  · subst k2
    exact lnum_attest es bk vt pf w a1 l1 c1 a2 l2 c2 a3 l3 c3 a4 l4 c4 a5 l5 c5 hv (fitsB_len hok)
  by_cases k3 : kd = 3
  · subst k3
    have h : pfB pf = true := hok
    simp only [pfB, Bool.and_eq_true] at h
    exact lnum_slash es bk vt pf w a1 l1 c1 a2 l2 c2 a3 l3 c3 a4 l4 c4 a5 l5 c5 ha hb (fitsB_len h.1) (fitsB_len h.2)
  by_cases k1 : kd = 1
  · subst k1
    exact lnum_block es bk vt pf w a1 l1 c1 a2 l2 c2 a3 l3 c3 a4 l4 c4 a5 l5 c5 hV hP hok
  exfalso
  simp [evB, k0, k1, k2, k3] at hok
end Go.Proofs.Ytdigpjfgjlhhjaa

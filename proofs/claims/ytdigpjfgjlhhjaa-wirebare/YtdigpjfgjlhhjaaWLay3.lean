/- Contracts of wire's layBlock and layEvent. -/
import Derived.Test.YtdigpjfgjlhhjaaWLay2

import Derived.Test.YtdigpjfgjlhhjaaWMayB

namespace Go.Proofs.Ytdigpjfgjlhhjaa

open Go.ChangeShapes Go.WideShapes Go.ChangeAt Go.RowKit

set_option linter.unusedVariables false

/-- a vote of a row, as it lay -/
theorem vote_at0 {w wr : World} {ao : Option Addr} {l c : Nat} {vs : List Vt} (H : RowsIn (VoteC w) 7 w ao l c vs) (hb : Below w.heap.size w wr) (k : Nat) (hk : k < vs.length) :
    ∃ b off av lv cv, ao = some ⟨b, off, none⟩ ∧ b < w.heap.size ∧ VoteC w (vtCs vs[k] av lv cv) vs[k] ∧
      wr.cell? ⟨b, off + k * 7, none⟩ = some (.int .i64 vs[k].slot) ∧
      wr.cell? ⟨b, off + k * 7 + 1, none⟩ = some (.int .u64 vs[k].head) ∧
      wr.cell? ⟨b, off + k * 7 + 2, none⟩ = some (.int .i64 vs[k].sE) ∧
      wr.cell? ⟨b, off + k * 7 + 3, none⟩ = some (.int .u64 vs[k].sR) ∧
      wr.cell? ⟨b, off + k * 7 + 4, none⟩ = some (.int .i64 vs[k].tE) ∧
      wr.cell? ⟨b, off + k * 7 + 5, none⟩ = some (.int .u64 vs[k].tR) ∧
      wr.cell? ⟨b, off + k * 7 + 6, none⟩ = some (.slice av lv cv) := by
  obtain ⟨b, off, cs, e, hbs, hcl, hcc, hvc⟩ := H.row k hk
  obtain ⟨av, lv, cv, rfl, hvc⟩ := hvc.out
  generalize vs[k] = v at *
  have x0 := (hb.cell (p := ⟨b, off + (k * 7 + 0), none⟩) hbs).trans (hcc 0 (by omega))
  have x1 := (hb.cell (p := ⟨b, off + (k * 7 + 1), none⟩) hbs).trans (hcc 1 (by omega))
  have x2 := (hb.cell (p := ⟨b, off + (k * 7 + 2), none⟩) hbs).trans (hcc 2 (by omega))
  have x3 := (hb.cell (p := ⟨b, off + (k * 7 + 3), none⟩) hbs).trans (hcc 3 (by omega))
  have x4 := (hb.cell (p := ⟨b, off + (k * 7 + 4), none⟩) hbs).trans (hcc 4 (by omega))
  have x5 := (hb.cell (p := ⟨b, off + (k * 7 + 5), none⟩) hbs).trans (hcc 5 (by omega))
  have x6 := (hb.cell (p := ⟨b, off + (k * 7 + 6), none⟩) hbs).trans (hcc 6 (by omega))
  simp only [List.getElem?_cons_zero, List.getElem?_cons_succ, ← Nat.add_assoc, Nat.add_zero] at x0 x1 x2 x3 x4 x5 x6
  exact ⟨b, off, av, lv, cv, e, hbs, hvc, x0, x1, x2, x3, x4, x5, x6⟩

def bkHd (bk : Bk) : List Int := [bk.root, bk.parent, u64 bk.slot, (bk.votes.length : Int), (bk.proofs.length : Int)]

theorem Below.lay {w0 w w' : World} {base : Nat} (hb : Below w0.heap.size w0 w) (h0 : w0.heap.size ≤ base) (h : Below base w w') : Below w0.heap.size w0 w' := hb.trans (h.mono h0)
theorem pf_more {ns : List Int} {p : Pf} {n n' : Nat} (hn : ns.length = n) (h : (ns ++ pfNs p).length = n') (hl : p.a.who.length ≤ 4096) (hl2 : p.b.who.length ≤ 4096) : n' ≤ n + 8206 := by
  rw [← h, List.length_append, pfNs, List.length_append, voteNs_len, voteNs_len]; omega

set_option maxHeartbeats 4000000 in
theorem layBlock_any (bk : Bk) (cs : List Value) (w0 w : World) (base n d : Nat) (ao : Option Addr) (ns : List Int) (hb : Below w0.heap.size w0 w) (h0 : w0.heap.size ≤ base) (hbs : base ≤ w.heap.size) (h : BlockC w0 cs bk) (hok : bkB bk = true)
    (hn : ns.length = n) (hn2 : n ≤ 999999000000) (ho : OwnsU w base (.slice ao n d) ns) :
    Calls Try.prog 29 #[.slice ao n d, .agg cs.toArray] w fun e w' => ∃ ao' n' d', e = .returned (.slice ao' n' d') ∧ Hid ((ns ++ bkNs bk).length = n') ∧ Lay base w (.slice ao' n' d') (ns ++ bkNs bk) w' := by
  obtain ⟨hw, a1, l1, c1, a2, l2, c2, rfl, HV, HP⟩ := h
  obtain ⟨hv16, hp16, hvl, hpl⟩ := bkB_of hok
  have hn1 := HV.len
  have hn2' := HP.len
  have hb1 : (l1 : Int) ≤ 16 := by omega
  have hb2 : (l2 : Int) ≤ 16 := by omega
  obtain ⟨W0, hW0⟩ : ∃ W, Hid (w.alloc (bkC bk a1 l1 c1 a2 l2 c2) = W) := ⟨_, rfl⟩
  have LW : Hid (Lay base w (.slice ao n d) ns W0) := by rw [← hW0.out]; exact (Lay.refl ho).alloc hbs _
  have L0 := hide (Lay.refl LW.out.own)
  have hO : Hid (W0.heap[w.heap.size]? = some (bkC bk a1 l1 c1 a2 l2 c2)) := by rw [← hW0.out]; exact heap_alloc_new _ _
  have hne : Hid (29 ≠ 25) := show _ ≠ _ by decide
  have hsW : base ≤ W0.heap.size := Nat.le_trans hbs LW.out.bel.size
  have N0 := hide hn
  have hcs : Hid (∀ w' : World, w'.heap[w.heap.size]? = some (bkC bk a1 l1 c1 a2 l2 c2) → w'.cell? ⟨w.heap.size, 0, none⟩ = some (.int .u64 bk.root) ∧ w'.cell? ⟨w.heap.size, 1, none⟩ = some (.int .u64 bk.parent) ∧ w'.cell? ⟨w.heap.size, 2, none⟩ = some (.int .i64 bk.slot) ∧
      w'.cell? ⟨w.heap.size, 3, none⟩ = some (.slice a1 l1 c1) ∧ w'.cell? ⟨w.heap.size, 4, none⟩ = some (.slice a2 l2 c2)) := fun w' h => by
    have hh := fun i => cell_of_row w' w.heap.size i _ _ _ h
    exact ⟨hh 0, hh 1, hh 2, hh 3, hh 4⟩
  have KV := hide HV
  have KP := hide HP
  have HBW := hide (Below.lay hb h0 LW.out.bel)
  obtain ⟨c0, c1', c2', c3, c4⟩ := hcs.out W0 hO.out
  have HVL := hide hvl
  have HPL := hide hpl
  clear ho hb hn HV HP hw hok hvl hpl
  obtain ⟨i0, hi, hz0, hz1, hz2⟩ := info_parts infoU64
  go_enter Try.func29, Try.ntmps29
  go_upto_region 1 with fail
  rw [hW0.out]
  go_wp2_with (at_builtin; refine wpList_append_rows _ rfl (.tmp 9) (.tmp 25) 48 rfl base 25 i0 .u64 (.int .u64 0) 8 Try.underlying48 hi hz0 hz1 hz2 rfl (.slice ao n d) (n) (ns) rfl (owns_as (L0.out.alloc hsW _).own N0.out) (some ⟨W0.heap.size, 0, none⟩) 5 5 [_, _, _, _, _] rfl (RowIn.lit .u64 _ _ _ _ _ _ _ [_, _, _, _, _] rfl rfl rfl (by simp [maxLen])) ?c1 ?c2 ?c3 ?_)
  case c1 => unfold maxLen; omega
  case c2 => omega
  case c3 => simp; omega
  intro ao1 d1 w1 hown hgrow
  obtain ⟨ns1, E1⟩ : ∃ x, Hid (ns ++ bkHd bk = x) := ⟨_, rfl⟩
  have h := Lay.app L0.out hsW hgrow hown (ys := bkHd bk) (by simp [u64_eq, bkHd, hn1, hn2']) E1.out
  have L1 := hide h.1
  have N1 := hide h.2
  clear hown hgrow h c0 c1' c2' c3 c4
  obtain ⟨c0, c1', c2', c3, c4⟩ := hcs.out w1 (L1.out.obj hO.out hne.out)
  go_wp2
  go_loopw [0, 30] (fun x i wr => ∃ (k m d : Nat) (g : Option Addr), k ≤ l1 ∧ i = .int .i64 k ∧ x = .slice g m d ∧ m ≤ n + 5 + k * 4103 ∧
      Hid ((ns1 ++ (bk.votes.take k).flatMap voteNs).length = m ∧ Lay base W0 (.slice g m d) (ns1 ++ (bk.votes.take k).flatMap voteNs) wr)) (fun _ i _ => l1 - (intOf i).toNat)
  case atStart => exact ⟨0, n + 5, d1, ao1, Nat.zero_le _, rfl, rfl, by omega, hide (by simp only [List.take_zero, List.flatMap_nil, List.append_nil]; exact ⟨N1.out, L1.out⟩)⟩
  case round =>
    obtain ⟨k, m, d', g, hk, rfl, rfl, hm, hI⟩ := hrel
    have hsr := Nat.le_trans hsW hI.out.2.bel.size
    by_cases hlt : k < l1
    · obtain ⟨b, off, av, lv, cv, rfl, hbs', hvc, x0, x1, x2, x3, x4, x5, x6⟩ := vote_at0 KV.out (Below.lay HBW.out h0 hI.out.2.bel) k (by omega)
      have hfl := fm_snoc bk.votes voteNs k (by omega)
      have hvk := HVL.out _ (List.getElem_mem (show k < bk.votes.length by omega))
      obtain ⟨v, hgv⟩ : ∃ v, Hid (bk.votes[k] = v) := ⟨_, hide rfl⟩
      rw [hgv.out] at x0 x1 x2 x3 x4 x5 hfl hvc hvk
      have HVC := hide hvc
      have HFL := hide hfl
      have HLV := hide hvk
      clear hfl hvc hvk
      obtain ⟨nk, hnk⟩ : ∃ q, Hid (ns1 ++ (bk.votes.take k).flatMap voteNs = q) := ⟨_, rfl⟩
      rw [hnk.out] at hI
      have LA := hide (hI.out.2.alloc hsW (.cells (vtCs v av lv cv).toArray 34))
      go_wp2_with fail
      refine (layVote_any v _ w0 _ base m d' g nk (Below.lay HBW.out h0 LA.out.bel) h0 (Nat.le_trans hsW LA.out.bel.size) HVC.out HLV.out hI.out.1 (by omega) LA.out.own).mono ?_
      rintro e w2 ⟨ao2, n2, d2, rfl, N2, hl⟩
      have hm2 : n2 ≤ m + 4103 := vote_more hI.out.1 N2.out HLV.out
      have e : nk ++ voteNs v = ns1 ++ (bk.votes.take (k + 1)).flatMap voteNs := by rw [← hnk.out, HFL.out, List.append_assoc]
      have hst : Hid ((ns1 ++ (bk.votes.take (k + 1)).flatMap voteNs).length = n2 ∧ Lay base W0 (.slice ao2 n2 d2) (ns1 ++ (bk.votes.take (k + 1)).flatMap voteNs) w2) := by
        rw [← e]; exact hide ⟨N2.out, LA.out.trans hl⟩
      clear hl LA hI e
      go_wp2
      go_roundw
      case rel => exact ⟨k + 1, n2, d2, ao2, by omega, by go_num, rfl, by omega, hst⟩
      case measure => simp [intOf]; omega
    · have : k = l1 := by omega
      subst this
      rw [List.take_of_length_le (by omega)] at hI
      clear c0 c1' c2' c3 c4
      obtain ⟨c0, c1', c2', c3, c4⟩ := hcs.out wr (hI.out.2.obj hO.out hne.out)
      obtain ⟨nv, hnv⟩ : ∃ q, Hid (ns1 ++ bk.votes.flatMap voteNs = q) := ⟨_, rfl⟩
      rw [hnv.out] at hI
      go_wp2
      go_loopw [0, 41] (fun x i wr => ∃ (k' m d : Nat) (g : Option Addr), k' ≤ l2 ∧ i = .int .i64 k' ∧ x = .slice g m d ∧ m ≤ n + 5 + k * 4103 + k' * 8206 ∧
          Hid ((nv ++ (bk.proofs.take k').flatMap pfNs).length = m ∧ Lay base W0 (.slice g m d) (nv ++ (bk.proofs.take k').flatMap pfNs) wr)) (fun _ i _ => l2 - (intOf i).toNat)
      case atStart => exact ⟨0, m, d', g, Nat.zero_le _, rfl, rfl, by omega, hide (by simp only [List.take_zero, List.flatMap_nil, List.append_nil]; exact hI.out)⟩
      case round =>
        clear c0 c1' c2' c3 c4
        rename_i wrx
        obtain ⟨j, m2, d2, g2, hj, rfl, rfl, hm2, hJ⟩ := hrel
        have hsr2 := Nat.le_trans hsW hJ.out.2.bel.size
        by_cases hlt : j < l2
        · obtain ⟨b, off, av, lv, cv, aw, lw, cw, rfl, hbs', hva, hvb, x0, x1, x2, x3, x4, x5, x6, y0, y1, y2, y3, y4, y5, y6⟩ := proof_at0 KP.out (Below.lay HBW.out h0 hJ.out.2.bel) j (by omega)
          have hfl := fm_snoc bk.proofs pfNs j (by omega)
          have hpk := HPL.out _ (List.getElem_mem (show j < bk.proofs.length by omega))
          obtain ⟨p, hgp⟩ : ∃ v, Hid (bk.proofs[j] = v) := ⟨_, hide rfl⟩
          rw [hgp.out] at x0 x1 x2 x3 x4 x5 y0 y1 y2 y3 y4 y5 hfl hva hvb hpk
          have HVP : Hid (ProofC w0 (vtCs p.a av lv cv ++ vtCs p.b aw lw cw) p) := ⟨_, _, rfl, hva, hvb⟩
          have HFL := hide hfl
          have HLV := hide hpk
          clear hfl hva hvb hpk
          obtain ⟨nk, hnk⟩ : ∃ q, Hid (nv ++ (bk.proofs.take j).flatMap pfNs = q) := ⟨_, rfl⟩
          rw [hnk.out] at hJ
          have LA := hide (hJ.out.2.alloc hsW (prC p av lv cv aw lw cw))
          go_wp2_with fail
          refine (layProof_any p _ w0 _ base m2 d2 g2 nk (Below.lay HBW.out h0 LA.out.bel) h0 (Nat.le_trans hsW LA.out.bel.size) HVP.out HLV.out.1 HLV.out.2 hJ.out.1 (by omega) LA.out.own).mono ?_
          rintro e w3 ⟨ao3, n3, d3, rfl, N3, hl⟩
          have hm3 : n3 ≤ m2 + 8206 := pf_more hJ.out.1 N3.out HLV.out.1 HLV.out.2
          have e : nk ++ pfNs p = nv ++ (bk.proofs.take (j + 1)).flatMap pfNs := by rw [← hnk.out, HFL.out, List.append_assoc]
          have hst : Hid ((nv ++ (bk.proofs.take (j + 1)).flatMap pfNs).length = n3 ∧ Lay base W0 (.slice ao3 n3 d3) (nv ++ (bk.proofs.take (j + 1)).flatMap pfNs) w3) := by
            rw [← e]; exact hide ⟨N3.out, LA.out.trans hl⟩
          clear hl LA hJ e
          go_wp2
          go_roundw
          case rel => exact ⟨j + 1, n3, d3, ao3, by omega, by go_num, rfl, by omega, hst⟩
          case measure => simp [intOf]; omega
        · have : j = l2 := by omega
          subst this
          rw [List.take_of_length_le (by omega)] at hJ
          have e : Hid (nv ++ bk.proofs.flatMap pfNs = ns ++ bkNs bk) := show _ = _ by rw [← hnv.out, ← E1.out]; simp [bkNs, bkHd]
          rw [e.out] at hJ
          go_wp2
          go_ret
          exact ⟨_, _, _, rfl, hide hJ.out.1, LW.out.trans hJ.out.2⟩
end Go.Proofs.Ytdigpjfgjlhhjaa

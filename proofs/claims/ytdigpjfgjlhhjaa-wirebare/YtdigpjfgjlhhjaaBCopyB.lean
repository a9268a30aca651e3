/- Contract of wire's copyBlock, of blocks of any size that came in. -/
import Derived.Test.YtdigpjfgjlhhjaaBCopy

import Derived.Test.YtdigpjfgjlhhjaaWLay3

namespace Go.Proofs.Ytdigpjfgjlhhjaa

open Go.ChangeShapes Go.WideShapes Go.ChangeAt Go.RowKit

set_option linter.unusedVariables false

/-- what came in: no list of it takes more than 2^47 bytes -/
def bkD (bk : Bk) : Prop := bk.votes.length ≤ 1954687338268 ∧ bk.proofs.length ≤ 977343669134 ∧ (∀ v ∈ bk.votes, v.who.length ≤ 17592186044416) ∧ ∀ p ∈ bk.proofs, p.a.who.length ≤ 17592186044416 ∧ p.b.who.length ≤ 17592186044416
set_option maxHeartbeats 8000000 in
theorem copyBlock_any (bk : Bk) (cs : List Value) (w : World) (h : BlockC w cs bk) (hok : bkD bk) :
    Calls Try.prog 16 #[.agg cs.toArray] w fun e w' => ∃ cs', e = .returned (.agg cs'.toArray) ∧ BlockC (filt tyA w.heap.size w') cs' bk ∧ Below w.heap.size w w' := by
  obtain ⟨hw, a1, l1, c1, a2, l2, c2, rfl, HV, HP⟩ := h
  obtain ⟨hv16, hp16, hvl, hpl⟩ := hok
  have hn1 := HV.len
  have hn2 := HP.len
  have hq1 : (l1 : Int) ≤ 1954687338268 := by omega
  have hq2 : (l2 : Int) ≤ 977343669134 := by omega
  have HW := hide hw
  have KV := hide HV
  have KP := hide HP
  have HVL := hide hvl
  have HPL := hide hpl
  obtain ⟨W0, hW0⟩ : ∃ W, Hid ((w.alloc (bkC bk a1 l1 c1 a2 l2 c2)).alloc (.cells #[.int .u64 0, .int .u64 0, .int .i64 0, .slice none 0 0, .slice none 0 0] 29 (0, 0)) = W) := ⟨_, rfl⟩
  have hb0 : Below w.heap.size w W0 := by rw [← hW0.out]; exact ((Below.refl _ _).alloc (Nat.le_refl _) _).alloc (by simp) _
  have hs0 : w.heap.size + 2 ≤ W0.heap.size := by rw [← hW0.out]; simp
  obtain ⟨OB, hOB⟩ : ∃ x : Obj, Hid (bkC bk a1 l1 c1 a2 l2 c2 = x) := ⟨_, rfl⟩
  have X1 : W0.heap[w.heap.size]? = some OB := by rw [← hW0.out, ← hOB.out, Below.heap_alloc _ _ _ (by simp)]; exact heap_alloc_new _ _
  have X2 : W0.heap[w.heap.size + 1]? = some (.cells #[.int .u64 0, .int .u64 0, .int .i64 0, .slice none 0 0, .slice none 0 0] 29 (0, 0)) := by
    have := heap_alloc_new (w.alloc (bkC bk a1 l1 c1 a2 l2 c2)) (.cells #[.int .u64 0, .int .u64 0, .int .i64 0, .slice none 0 0, .slice none 0 0] 29 (0, 0))
    rw [← hW0.out]
    simpa using this
  have c3 : W0.cell? ⟨w.heap.size, 3, none⟩ = some (.slice a1 l1 c1) := cell_of_row W0 w.heap.size 3 _ _ _ (X1.trans (by rw [← hOB.out]))
  have HB0 := hide hb0
  have HX1 := hide X1
  have HX2 := hide X2
  obtain ⟨iv, hiv, hv0, hv1x, hv2⟩ := info_parts infoVZ
  obtain ⟨ip, hip, hp0, hp1, hp2⟩ := info_parts infoPZ
  clear hw HV HP hb0 X1 X2 hvl hpl
  go_enter Try.func16, Try.ntmps16
  go_upto_region 1 with fail
  rw [hW0.out]
  go_upto_region 2 with (at_make; refine wpList_make_own _ rfl _ _ 26 rfl (w.heap.size + 2) 34 iv (.agg #[.int .i64 0, .int .u64 0, .int .i64 0, .int .u64 0, .int .i64 0, .int .u64 0, .slice none 0 0]) 7 Try.underlying26 hiv hv0 hv1x _ _ _ l1 rfl rfl (by omega) ?b2 ?b3 hs0 ?_)
  case b2 => rw [hv2]; omega
  case b3 => unfold maxLen; omega
  intro w1 hown1 hg1
  have hb1 : Below W0.heap.size W0 w1 := (Below.refl _ _).grown hg1 (Nat.le_refl _) (fun k h => by cases h)
  have O1 : Hid (OwnRows (VoteC (filt tyI (w.heap.size + 2) w1)) 34 7 (w.heap.size + 2) w1 (.slice (some ⟨W0.heap.size, 0, none⟩) 0 l1) []) := ⟨[], Chunks.nil _ _, hown1⟩
  have I1 : Hid (w1.heap[w.heap.size]? = some OB ∧ w1.heap[w.heap.size + 1]? = some (.cells #[.int .u64 0, .int .u64 0, .int .i64 0, .slice none 0 0, .slice none 0 0] 29 (0, 0)) ∧ Below w.heap.size w w1 ∧ w.heap.size + 2 ≤ w1.heap.size) := ⟨(hb1.block _ (by omega)).trans HX1.out, (hb1.block _ (by omega)).trans HX2.out, HB0.out.trans (hb1.mono (by omega)), by have := hb1.size; omega⟩
  have c3' : w1.cell? ⟨w.heap.size, 3, none⟩ = some (.slice a1 l1 c1) := cell_of_row w1 w.heap.size 3 _ _ _ (I1.out.1.trans (by rw [← hOB.out]))
  obtain ⟨g0, hg0⟩ : ∃ x, Hid (W0.heap.size = x) := ⟨_, rfl⟩
  rw [hg0.out] at O1 ⊢
  clear hown1 hg1 hb1 c3
  go_wp2
  go_loopw [3, 16] (fun x i wr => ∃ (k d : Nat) (g : Option Addr), k ≤ l1 ∧ i = .int .i64 k ∧ x = .slice g k d ∧
      Hid (OwnRows (VoteC (filt tyI (w.heap.size + 2) wr)) 34 7 (w.heap.size + 2) wr (.slice g k d) (bk.votes.take k) ∧ wr.heap[w.heap.size]? = some OB ∧ wr.heap[w.heap.size + 1]? = some (.cells #[.int .u64 0, .int .u64 0, .int .i64 0, .slice none 0 0, .slice none 0 0] 29 (0, 0)) ∧ Below w.heap.size w wr ∧ w.heap.size + 2 ≤ wr.heap.size)) (fun _ i _ => l1 - (intOf i).toNat)
  case atStart => exact ⟨0, l1, _, Nat.zero_le _, rfl, rfl, hide ⟨O1.out, I1.out.1, I1.out.2.1, I1.out.2.2.1, I1.out.2.2.2⟩⟩
  case round =>
    clear c3' O1 I1
    obtain ⟨k, d, g, hk, rfl, rfl, hI⟩ := hrel
    by_cases hlt : k < l1
    · obtain ⟨b, off, av, lv, cv, rfl, hbs, hvc, x0, x1, x2, x3, x4, x5, x6⟩ := vote_at0 KV.out hI.out.2.2.2.1 k (by omega)
      have hvk := HVL.out _ (List.getElem_mem (show k < bk.votes.length by omega))
      have hsn : bk.votes.take (k + 1) = bk.votes.take k ++ [bk.votes[k]] := List.take_succ_eq_append_getElem (by omega)
      obtain ⟨v, hgv⟩ : ∃ v, Hid (bk.votes[k] = v) := ⟨_, hide rfl⟩
      rw [hgv.out] at x0 x1 x2 x3 x4 x5 hvc hvk hsn
      have HVC := hide hvc
      clear hvc
      have HSN := hide hsn
      have HLV := hide hvk
      have hl : Hid ((bk.votes.take k).length = k) := show _ = _ by rw [List.length_take]; omega
      clear hsn hvk
      have hbe := hI.out.2.2.2.1.alloc hI.out.2.2.2.1.size (votC v av lv cv)
      have HBE := hide hbe
      clear hbe
      go_wp2_with fail
      refine (copyVote_any v _ _ (HVC.out.below HBE.out) HLV.out).mono ?_
      rintro e v1 ⟨cs1, rfl, hv1, hb1⟩
      obtain ⟨a4, l4, c4, rfl, hv1⟩ := hv1.out
      have hb1' : Below wr.heap.size wr v1 := (below_alloc wr _).trans (hb1.mono (by simp))
      obtain ⟨v1', hv1'⟩ : ∃ x, Hid (v1.alloc (votC v a4 l4 c4) = x) := ⟨_, rfl⟩
      have hb2' : Below wr.heap.size wr v1' := hb1'.trans (by rw [← hv1'.out]; exact (below_alloc _ _).mono hb1'.size)
      have hb3' : Below v1.heap.size v1 v1' := by rw [← hv1'.out]; exact below_alloc _ _
      have VC' : VoteC (filt tyI (w.heap.size + 2) v1') (vtCs v a4 l4 c4) v := (hv1.ext (filt_mono (q := tyI) (B := w.heap.size + 2) v1 (by have := hI.out.2.2.2.2; simp; omega) (fun t h => h))).ext (filt_below hb3')
      have OWN' := hide (hI.out.1.below hb2' (fun cs v h => h.ext (filt_below hb2')))
      have hRL : Hid (RowsIn (VoteC (filt tyI (w.heap.size + 2) v1')) 7 v1' (some ⟨v1.heap.size, 0, none⟩) 1 1 [v]) := by
        rw [← hv1'.out]
        exact RowsIn.lit (R := VoteC (filt tyI (w.heap.size + 2) (v1.alloc (votC v a4 l4 c4)))) v1 v1.heap.size (vtCs v a4 l4 c4) 34 7 v rfl rfl (by rw [hv1'.out]; exact VC')
      have one : Hid (∀ (cs : List Value) (u : Vt), VoteC (filt tyI (w.heap.size + 2) v1') cs u → ∀ z ∈ cs, z.oneCell' = true) := fun cs u h => h.one.1
      have HB2 := hide hb2'
      have hsz2 := hb2'.size
      have hszr := hI.out.2.2.2.2
      clear hv1 hb1 hb1' hb2' hb3' VC'
      go_wp2_with (at_builtin; rw [hv1'.out]; refine wpList_append_structs (R := VoteC (filt tyI (w.heap.size + 2) v1')) v1' rfl (.tmp 20) (.tmp 23) 26 rfl (w.heap.size + 2) 34 iv (.agg #[.int .i64 0, .int .u64 0, .int .i64 0, .int .u64 0, .int .i64 0, .int .u64 0, .slice none 0 0]) 7 72 Try.underlying26 hiv hv0 hv1x hv2 rfl (by omega) one.out (.slice g k d) k (bk.votes.take k) rfl OWN'.out hl.out (some ⟨v1.heap.size, 0, none⟩) 1 1 [v] rfl hRL.out ?c1 ?c2 ?c3 ?_)
      case c1 => unfold maxLen; omega
      case c2 => omega
      case c3 => omega
      intro ao5 d5 v5 hown5 hg5
      rw [← HSN.out] at hown5
      have hlt5 : ∀ j, (Value.slice g k d).ownBlock = some j → w.heap.size + 2 ≤ j := fun j hj => by obtain ⟨css, _, ho⟩ := hI.out.1; exact (ho.lt j hj).1
      have hb5 : Below (w.heap.size + 2) wr v5 := (HB2.out.mono (by omega)).grown hg5 (by omega) hlt5
      have EX5 : Ext (filt tyI (w.heap.size + 2) v1') (filt tyI (w.heap.size + 2) v5) := by obtain ⟨css, _, ho⟩ := OWN'.out; exact filt_grown hg5 ho rfl
      have hst : Hid (OwnRows (VoteC (filt tyI (w.heap.size + 2) v5)) 34 7 (w.heap.size + 2) v5 (.slice ao5 (k + 1) d5) (bk.votes.take (k + 1)) ∧ v5.heap[w.heap.size]? = some OB ∧ v5.heap[w.heap.size + 1]? = some (.cells #[.int .u64 0, .int .u64 0, .int .i64 0, .slice none 0 0, .slice none 0 0] 29 (0, 0)) ∧ Below w.heap.size w v5 ∧ w.heap.size + 2 ≤ v5.heap.size ) :=
        ⟨hown5.mono fun cs v h => h.ext EX5, (hb5.block _ (by omega)).trans hI.out.2.1, (hb5.block _ (by omega)).trans hI.out.2.2.1, hI.out.2.2.2.1.trans (hb5.mono (by omega)), by have := hb5.size; omega ⟩
      clear hown5 hg5 hlt5 hb5 EX5 OWN' hRL hI 
      go_wp2
      go_roundw
      case rel => exact ⟨k + 1, d5, ao5, by omega, by go_num, rfl, hst⟩
      case measure => simp [intOf]; omega
    · have : k = l1 := by omega
      subst this
      rw [List.take_of_length_le (by omega)] at hI
      obtain ⟨gv, hgv⟩ : ∃ x, Hid (g = x) := ⟨_, rfl⟩
      obtain ⟨dv, hdv⟩ : ∃ x, Hid (d = x) := ⟨_, rfl⟩
      have HOV := hide hI.out.1
      rw [hgv.out, hdv.out] at HOV
      have hsr := hI.out.2.2.2.2
      have c4 : wr.cell? ⟨w.heap.size, 4, none⟩ = some (.slice a2 l2 c2) := cell_of_row wr w.heap.size 4 _ _ _ (hI.out.2.1.trans (by rw [← hOB.out]))
      go_upto_region 8 with (at_make; refine wpList_make_own _ rfl _ _ 27 rfl (w.heap.size + 2) 36 ip (.agg #[.int .i64 0, .int .u64 0, .int .i64 0, .int .u64 0, .int .i64 0, .int .u64 0, .slice none 0 0, .int .i64 0, .int .u64 0, .int .i64 0, .int .u64 0, .int .i64 0, .int .u64 0, .slice none 0 0]) 14 Try.underlying27 hip hp0 hp1 _ _ _ l2 rfl rfl (by omega) ?b2 ?b3 hsr ?_)
      case b2 => rw [hp2]; omega
      case b3 => unfold maxLen; omega
      intro w2 hown2 hg2
      have hb2 : Below wr.heap.size wr w2 := (Below.refl _ _).grown hg2 (Nat.le_refl _) (fun k h => by cases h)
      have O2 : Hid (OwnRows (ProofC (filt tyI (w.heap.size + 2) w2)) 36 14 (w.heap.size + 2) w2 (.slice (some ⟨wr.heap.size, 0, none⟩) 0 l2) []) := ⟨[], Chunks.nil _ _, hown2⟩
      have I2 : Hid (w2.heap[w.heap.size]? = some OB ∧ w2.heap[w.heap.size + 1]? = some (.cells #[.int .u64 0, .int .u64 0, .int .i64 0, .slice none 0 0, .slice none 0 0] 29 (0, 0)) ∧ Below w.heap.size w w2 ∧ w.heap.size + 2 ≤ w2.heap.size ∧ OwnRows (VoteC (filt tyI (w.heap.size + 2) w2)) 34 7 (w.heap.size + 2) w2 (.slice gv k dv) bk.votes) :=
        ⟨(hb2.block _ (by omega)).trans hI.out.2.1, (hb2.block _ (by omega)).trans hI.out.2.2.1, hI.out.2.2.2.1.trans (hb2.mono (by omega)), by have := hb2.size; omega, HOV.out.below hb2 (fun cs v h => h.ext (filt_below hb2))⟩
      have c4' : w2.cell? ⟨w.heap.size, 4, none⟩ = some (.slice a2 l2 c2) := cell_of_row w2 w.heap.size 4 _ _ _ (I2.out.1.trans (by rw [← hOB.out]))
      obtain ⟨g1, hg1⟩ : ∃ x, Hid (wr.heap.size = x) := ⟨_, rfl⟩
      rw [hg1.out] at O2 ⊢
      rw [hgv.out, hdv.out]
      clear hown2 hg2 hb2 c4 hI HOV hsr
      go_wp2
      go_loopw [6, 33] (fun x i wr => ∃ (j d : Nat) (g : Option Addr), j ≤ l2 ∧ i = .int .i64 j ∧ x = .slice g j d ∧
          Hid (OwnRows (ProofC (filt tyI (w.heap.size + 2) wr)) 36 14 (w.heap.size + 2) wr (.slice g j d) (bk.proofs.take j) ∧ wr.heap[w.heap.size]? = some OB ∧ wr.heap[w.heap.size + 1]? = some (.cells #[.int .u64 0, .int .u64 0, .int .i64 0, .slice none 0 0, .slice none 0 0] 29 (0, 0)) ∧ Below w.heap.size w wr ∧ w.heap.size + 2 ≤ wr.heap.size ∧ OwnRows (VoteC (filt tyI (w.heap.size + 2) wr)) 34 7 (w.heap.size + 2) wr (.slice gv k dv) bk.votes)) (fun _ i _ => l2 - (intOf i).toNat)
      case atStart => exact ⟨0, l2, _, Nat.zero_le _, rfl, rfl, hide ⟨O2.out, I2.out.1, I2.out.2.1, I2.out.2.2.1, I2.out.2.2.2.1, I2.out.2.2.2.2⟩⟩
      case round =>
        clear c4' O2 I2 hlt hk
        rename_i wrx
        clear hgv hdv hg1
        have hN1' : Hid (bk.votes.length = k) := hn1
        obtain ⟨k2, d, g, hk, rfl, rfl, hI⟩ := hrel
        by_cases hlt : k2 < l2
        · obtain ⟨b, off, av, lv, cv, aw, lw, cw, rfl, hbs, hva, hvb, x0, x1, x2, x3, x4, x5, x6, y0, y1, y2, y3, y4, y5, y6⟩ := proof_at0 KP.out hI.out.2.2.2.1 k2 (by omega)
          have hvk := HPL.out _ (List.getElem_mem (show k2 < bk.proofs.length by omega))
          have hsn : bk.proofs.take (k2 + 1) = bk.proofs.take k2 ++ [bk.proofs[k2]] := List.take_succ_eq_append_getElem (by omega)
          obtain ⟨v, hgv⟩ : ∃ v, Hid (bk.proofs[k2] = v) := ⟨_, hide rfl⟩
          rw [hgv.out] at x0 x1 x2 x3 x4 x5 y0 y1 y2 y3 y4 y5 hva hvb hvk hsn
          have HVC : Hid (ProofC w (vtCs v.a av lv cv ++ vtCs v.b aw lw cw) v) := ⟨_, _, rfl, hva, hvb⟩
          clear hva hvb
          have HSN := hide hsn
          have HLV := hide hvk
          have hl : Hid ((bk.proofs.take k2).length = k2) := show _ = _ by rw [List.length_take]; omega
          clear hsn hvk
          have hbe := hI.out.2.2.2.1.alloc hI.out.2.2.2.1.size (prC v av lv cv aw lw cw)
          have HBE := hide hbe
          clear hbe
          go_wp2_with fail
          refine (copyProof_any v _ _ (HVC.out.below HBE.out) HLV.out.1 HLV.out.2).mono ?_
          rintro e v1 ⟨cs1, rfl, hv1, hb1⟩
          obtain ⟨xa, xb, rfl, hva, hvb⟩ := hv1
          obtain ⟨a4, l4, c4, rfl, hva⟩ := hva.out
          obtain ⟨a5, l5, c5, rfl, hvb⟩ := hvb.out
          have hv1 : ProofC (filt tyI (wr.alloc (prC v av lv cv aw lw cw)).heap.size v1) (vtCs v.a a4 l4 c4 ++ vtCs v.b a5 l5 c5) v := ⟨_, _, rfl, hva, hvb⟩
          clear hva hvb
          have hb1' : Below wr.heap.size wr v1 := (below_alloc wr _).trans (hb1.mono (by simp))
          obtain ⟨v1', hv1'⟩ : ∃ x, Hid (v1.alloc (prC v a4 l4 c4 a5 l5 c5) = x) := ⟨_, rfl⟩
          have hb2' : Below wr.heap.size wr v1' := hb1'.trans (by rw [← hv1'.out]; exact (below_alloc _ _).mono hb1'.size)
          have hb3' : Below v1.heap.size v1 v1' := by rw [← hv1'.out]; exact below_alloc _ _
          have VC' : ProofC (filt tyI (w.heap.size + 2) v1') (vtCs v.a a4 l4 c4 ++ vtCs v.b a5 l5 c5) v := (hv1.ext (filt_mono (q := tyI) (B := w.heap.size + 2) v1 (by have := hI.out.2.2.2.2.1; simp; omega) (fun t h => h))).ext (filt_below hb3')
          have OWN' := hide (hI.out.1.below hb2' (fun cs v h => h.ext (filt_below hb2')))
          have hRL : Hid (RowsIn (ProofC (filt tyI (w.heap.size + 2) v1')) 14 v1' (some ⟨v1.heap.size, 0, none⟩) 1 1 [v]) := by
            rw [← hv1'.out]
            exact RowsIn.lit (R := ProofC (filt tyI (w.heap.size + 2) (v1.alloc (prC v a4 l4 c4 a5 l5 c5)))) v1 v1.heap.size (vtCs v.a a4 l4 c4 ++ vtCs v.b a5 l5 c5) 36 14 v rfl rfl (by rw [hv1'.out]; exact VC')
          have one : Hid (∀ (cs : List Value) (u : Pf), ProofC (filt tyI (w.heap.size + 2) v1') cs u → ∀ z ∈ cs, z.oneCell' = true) := fun cs u h => h.one.1
          have HB2 := hide hb2'
          have hsz2 := hb2'.size
          have hszr := hI.out.2.2.2.2.1
          clear hv1 hb1 hb1' hb2' hb3' VC'
          go_wp2_with (at_builtin; rw [hv1'.out]; refine wpList_append_structs (R := ProofC (filt tyI (w.heap.size + 2) v1')) v1' rfl (.tmp 37) (.tmp 40) 27 rfl (w.heap.size + 2) 36 ip (.agg #[.int .i64 0, .int .u64 0, .int .i64 0, .int .u64 0, .int .i64 0, .int .u64 0, .slice none 0 0, .int .i64 0, .int .u64 0, .int .i64 0, .int .u64 0, .int .i64 0, .int .u64 0, .slice none 0 0]) 14 144 Try.underlying27 hip hp0 hp1 hp2 rfl (by omega) one.out (.slice g k2 d) k2 (bk.proofs.take k2) rfl OWN'.out hl.out (some ⟨v1.heap.size, 0, none⟩) 1 1 [v] rfl hRL.out ?c1 ?c2 ?c3 ?_)
          case c1 => unfold maxLen; omega
          case c2 => omega
          case c3 => omega
          intro ao5 d5 v5 hown5 hg5
          rw [← HSN.out] at hown5
          have hlt5 : ∀ j, (Value.slice g k2 d).ownBlock = some j → w.heap.size + 2 ≤ j := fun j hj => by obtain ⟨css, _, ho⟩ := hI.out.1; exact (ho.lt j hj).1
          have hb5 : Below (w.heap.size + 2) wr v5 := (HB2.out.mono (by omega)).grown hg5 (by omega) hlt5
          have EX5 : Ext (filt tyI (w.heap.size + 2) v1') (filt tyI (w.heap.size + 2) v5) := by obtain ⟨css, _, ho⟩ := OWN'.out; exact filt_grown hg5 ho rfl
          have hst : Hid (OwnRows (ProofC (filt tyI (w.heap.size + 2) v5)) 36 14 (w.heap.size + 2) v5 (.slice ao5 (k2 + 1) d5) (bk.proofs.take (k2 + 1)) ∧ v5.heap[w.heap.size]? = some OB ∧ v5.heap[w.heap.size + 1]? = some (.cells #[.int .u64 0, .int .u64 0, .int .i64 0, .slice none 0 0, .slice none 0 0] 29 (0, 0)) ∧ Below w.heap.size w v5 ∧ w.heap.size + 2 ≤ v5.heap.size ∧ OwnRows (VoteC (filt tyI (w.heap.size + 2) v5)) 34 7 (w.heap.size + 2) v5 (.slice gv k dv) bk.votes) :=
            ⟨hown5.mono fun cs v h => h.ext EX5, (hb5.block _ (by omega)).trans hI.out.2.1, (hb5.block _ (by omega)).trans hI.out.2.2.1, hI.out.2.2.2.1.trans (hb5.mono (by omega)), by have := hb5.size; omega , ovs_other (hI.out.2.2.2.2.2.below HB2.out (fun cs v h => h.ext (filt_below HB2.out))) OWN'.out hg5 (by decide) (fun cs v h => h.ext EX5)⟩
          clear hown5 hg5 hlt5 hb5 EX5 OWN' hRL hI 
          go_wp2
          go_roundw
          case rel => exact ⟨k2 + 1, d5, ao5, by omega, by go_num, rfl, hst⟩
          case measure => simp [intOf]; omega
        · have : k2 = l2 := by omega
          subst this
          rw [List.take_of_length_le (by omega)] at hI
          obtain ⟨hOP, z1, z2, hbw, hsr, hOV⟩ := hI.out
          rw [← hOB.out] at z1
          have d3 : wr.cell? ⟨w.heap.size, 3, none⟩ = some (.slice a1 k c1) := cell_of_row wr w.heap.size 3 _ _ _ z1
          have d4 : wr.cell? ⟨w.heap.size, 4, none⟩ = some (.slice a2 k2 c2) := cell_of_row wr w.heap.size 4 _ _ _ z1
          have f3 : wr.frozen? ⟨w.heap.size, 3, none⟩ = false := by unfold World.frozen?; rw [z1]; simp
          have f4 : wr.frozen? ⟨w.heap.size, 4, none⟩ = false := by unfold World.frozen?; rw [z1]; simp
          obtain ⟨w6, hw6⟩ : ∃ x, Hid ((wr.setCell ⟨w.heap.size, 3, none⟩ (.slice gv k dv)).setCell ⟨w.heap.size, 4, none⟩ (.slice g k2 d) = x) := ⟨_, rfl⟩
          have hA6 : Apart w.heap.size wr w6 := by rw [← hw6.out]; exact ((Apart.refl _ _).set _ _).set _ _
          have y1 : w6.heap[w.heap.size]? = some (bkC bk gv k dv g k2 d) := by rw [← hw6.out]; exact set_obj (set_obj z1 3 _) 4 _
          have y2 := (hA6.block (w.heap.size + 1) (by omega) (by omega)).trans z2
          have LD := hide (load_obj (C := #[.int .u64 bk.root, .int .u64 bk.parent, .int .i64 bk.slot, .slice gv k dv, .slice g k2 d]) Try.underlying29 infoBk rfl y1)
          obtain ⟨w9, hrun, y9, hA9⟩ := store_obj (P := Try.prog) (cs := [.int .u64 bk.root, .int .u64 bk.parent, .int .i64 bk.slot, .slice gv k dv, .slice g k2 d]) infoBk rfl rfl (by simp [Value.oneCell']) y2
          have RUN := hide hrun
          have Y9 := hide y9
          have hs6 := hA6.size
          have HB9 : Hid (Below w.heap.size w w9) := Below.apart (Below.apart hbw hA6 (Nat.le_refl _) (by omega)) hA9 (by omega) (by omega)
          have E6 := filt_apart (p := tyI) (B := w.heap.size + 2) hA6 (by omega)
          have E9 := filt_apart (p := tyI) (B := w.heap.size + 2) hA9 (by omega)
          have M9 := filt_mono (p := tyI) (q := tyA) (B := w.heap.size) (B' := w.heap.size + 2) w9 (by omega) (fun t h => by simp only [tyI, tyA] at h ⊢; rw [h]; rfl)
          obtain ⟨az, cz, ez, hz⟩ := filt_rows (p := tyA) (B := w.heap.size) ((hOV.apart hA6 (by omega) (fun cs v h => h.ext E6)).apart hA9 (by omega) (fun cs v h => (h.ext E9).ext M9)) (by omega) rfl (by omega)
          obtain ⟨ay, cy, ey, hy⟩ := filt_rows (p := tyA) (B := w.heap.size) ((hOP.apart hA6 (by omega) (fun cs v h => h.ext E6)).apart hA9 (by omega) (fun cs v h => (h.ext E9).ext M9)) (by omega) rfl (by omega)
          rw [hN1'.out] at ez hz
          rw [hn2] at ey hy
          cases ez
          cases ey
          have HZ := hide hz
          have HY := hide hy
          clear hI hOP z1 z2 hbw hOV hA6 y1 y2 hrun y9 hA9 E6 E9 M9 hz hy
          go_upto_region 14 with fail
          rw [hw6.out]
          go_wp2_with (first
            | (refine wpList_load_at 29 (.tmp 1) rfl rfl (.pointer (some ⟨w.heap.size, 0, none⟩)) rfl (.agg _) LD.out ?_)
            | (refine wpList_store_at 29 (.tmp 2) (.tmp 47) rfl rfl (.pointer (some ⟨w.heap.size + 1, 0, none⟩)) (.agg _) rfl rfl _ RUN.out ?_))
          exact ret_struct rfl rfl Y9.out Try.underlying29 infoBk rfl ⟨_, rfl, ⟨HW.out, _, _, _, _, _, _, rfl, HZ.out, HY.out⟩, HB9.out⟩
end Go.Proofs.Ytdigpjfgjlhhjaa

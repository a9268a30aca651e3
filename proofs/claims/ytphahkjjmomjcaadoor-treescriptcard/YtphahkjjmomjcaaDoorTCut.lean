/- Contract of Cut. -/
import Derived.Test.YtphahkjjmomjcaaDoorTCutP

import Derived.Test.YtphahkjjmomjcaaDoorTSort

import Derived.Test.YtphahkjjmomjcaaDoorHand

import Derived.Maps.RangeWalk

namespace Go.Proofs.YtphahkjjmomjcaaDoor

open Go.ChangeShapes Go.WideShapes Go.ChangeAt Go.RowKit

set_option linter.unusedVariables false

/-- Sort does as it should, of up to L numbers, all unlike -/
def Sorts (L : Nat) : Prop := ∀ (base : Nat) (v : Value) (zs : List Int) (w : World), w.ownsRow base 26 1 v zs.length (zs.map (Value.int .u64)) → zs.Nodup → zs.length ≤ L → Calls Tryd.prog 19 #[v] w (SortedAt w base v zs.length zs)
theorem sorts_small : Sorts 12 := fun base v zs w h _ hl => by
  rcases h.2 with ⟨rfl, h0⟩ | ⟨g, cap, cur, rfl, h1⟩
  · have : zs = [] := List.eq_nil_of_length_eq_zero h0
    subst this
    exact sort_none base w
  · exact sort_small base g cap zs w h hl
/-- what Cut leaves, of a block that is there -/
def CutDone (F : Nat → Prop) (p : Nat) (bs : List TBlk) (b : Nat) (w : World) (e : Ending) (w' : World) : Prop :=
  ∃ gv, e = .returned gv ∧ w'.ownsRow w.heap.size 26 1 gv (GL bs b bs.length).length ((rise (GL bs b bs.length)).map (Value.int .u64)) ∧
    ∃ F' ts, TAt w' F' p ts ∧ TOk ts ∧ CutOf bs (SL bs b bs.length) ts ∧ Turn F w w' ∧ (∀ i, F' i → F i ∨ w.heap.size ≤ i) ∧ ∀ g, gv.ownBlock = some g → ¬ F' g

/-- how far Cut has come -/
def CutInv (bs : List TBlk) (b p2 : Nat) (w : World) (m : Nat) (gv : Value) (wr : World) : Prop :=
  wr.ownsRow w.heap.size 26 1 gv (GL bs b m).length ((GL bs b m).map (Value.int .u64)) ∧ Below w.heap.size w wr ∧
    ∃ F2 ts, TAt wr F2 p2 ts ∧ TOk ts ∧ CutOf bs (SL bs b m) ts ∧ (∀ k, F2 k → w.heap.size ≤ k) ∧ (∀ k, F2 k → k < wr.heap.size) ∧ ∀ g, gv.ownBlock = some g → ¬ F2 g
theorem CutInv.below {bs : List TBlk} {b p2 : Nat} {w : World} {m : Nat} {gv : Value} {wr w' : World} (h : CutInv bs b p2 w m gv wr) (hb : Below wr.heap.size wr w') : CutInv bs b p2 w m gv w' := by
  obtain ⟨h1, h2, F2, ts, h3, h4, h5, h6, h7, h8⟩ := h
  exact ⟨owns_below h1 hb, h2.trans (hb.mono h2.size), F2, ts, h3.below hb, h4, h5, h6, fun k hk => Nat.lt_of_lt_of_le (h7 k hk) hb.size, h8⟩
theorem CutInv.self {bs : List TBlk} {b p2 : Nat} {w : World} {gv : Value} {wr : World} (h : CutInv bs b p2 w b gv wr) : CutInv bs b p2 w (b + 1) gv wr := by
  obtain ⟨h1, h2, F2, ts, h3, h4, h5, h6⟩ := h
  exact ⟨by rw [GL_in (stands_self bs b)]; exact h1, h2, F2, ts, h3, h4, by rw [SL_self]; exact h5, h6⟩

theorem cut_none (F : Nat → Prop) (p : Nat) (bs : List TBlk) (r : Int) (w : World) (hT : TAt w F p bs) (hO : TOk bs) (hr : U64 r) (hx : idx bs r = none) :
    Calls Tryd.prog 6 #[.pointer (some ⟨p, 0, none⟩), .int .u64 r] w fun e w' => e = .returned (.slice none 0 0) ∧ w' = w := by
  obtain ⟨mb, g, c, c0, c1, hM, hc, hcm, hcell⟩ := hT.open hO.pos
  have hlook := hM.look r hr
  rw [hx] at hlook
  simp only [Option.isSome_none, Option.getD_none] at hlook
  clear hM hcell hT
  go_enter Tryd.func6, Tryd.ntmps6
  go_wp2
  go_ret
  exact ⟨rfl, rfl⟩

set_option maxRecDepth 100000 in
set_option maxHeartbeats 4000000 in
theorem cut_any (L : Nat) (hL : Sorts L) (F : Nat → Prop) (p : Nat) (bs : List TBlk) (r : Int) (b : Nat) (w : World) (hT : TAt w F p bs) (hO : TOk bs) (hr : U64 r) (hx : idx bs r = some b) (hbl : bs.length ≤ L + 1) :
    Calls Tryd.prog 6 #[.pointer (some ⟨p, 0, none⟩), .int .u64 r] w (CutDone F p bs b w) := by
  have hTw := hide hT
  obtain ⟨mb, bv, ks, hP, hB, hM, hFp, hFm, hFb⟩ := hT
  obtain ⟨ao, c, rfl, hc, hcm, hcell⟩ := hB.cells
  obtain ⟨hb, hbr⟩ := idx_some hx
  obtain ⟨g, rfl, hgw, hcb⟩ := hcell b hb
  have hlook := hM.look r hr
  rw [hx] at hlook
  simp only [Option.isSome_some, Option.getD_some] at hlook
  have c0 := hP.cell 0
  have c1 := hP.cell 1
  simp only [List.getElem?_toArray, List.getElem?_cons_zero, List.getElem?_cons_succ] at c0 c1
  have k2 := hcb 2 (by omega)
  rw [← tb_lt hb] at k2
  simp only [tcells, List.getElem?_cons_zero, List.getElem?_cons_succ] at k2
  have HC : Hid (∀ i, i < bs.length → ∃ kv, kv.oneCell' = true ∧ ∀ j, j < 5 → w.cell? ⟨g, i * 5 + j, none⟩ = (tcells (tb bs i) kv)[j]?) := fun i hi => by
    obtain ⟨g', e, _, h5⟩ := hcell i hi
    cases e
    refine ⟨ks.getD i (.slice none 0 0), ?_, fun j hj => by rw [tb_lt hi]; exact h5 j hj⟩
    obtain ⟨ao', c', e, _⟩ := RowIn.ofOwned (hB.kid i hi)
    rw [e]; rfl
  obtain ⟨n, hn⟩ : ∃ n, Hid (bs.length = n) := ⟨_, rfl⟩
  obtain ⟨z, hz⟩ : ∃ z, Hid ((tb bs b).slot = z) := ⟨_, rfl⟩
  have HO := hide hO
  have hlim := hO.lim
  have hpw := hP.lt
  have hoi : (b : Int) < (bs.length : Int) := by omega
  have hof := of_any r (tb bs b).slot w hr
  rw [← hbr, hz.out] at hof
  rw [hbr] at hof
  rw [hn.out] at c0 hb hlim hoi hbl
  rw [hz.out] at k2
  have HOF := hide hof
  have HP := hide hP
  have HF := hide (⟨hFp, hFm, hFb⟩ : F p ∧ F mb ∧ _)
  have hbr2 := hide hbr
  clear hof hP hB hM hFp hFm hFb hcell hcb hO hx hbr hc hcm
  go_enter Tryd.func6, Tryd.ntmps6
  go_wp2_with fail
  refine HOF.out.mono ?_
  rintro e w1 ⟨p2, rfl, hT2, hbel⟩
  have hc0 : w1.cell? ⟨p, 0, none⟩ = some (.slice (some ⟨g, 0, none⟩) n c) := (hbel.cell (p := ⟨p, 0, none⟩) hpw).trans c0
  have HT2 := hide hT2
  have HB := hide hbel
  clear HOF hT2 hbel hlook k2
  go_wp2
  go_loopw [7, 37] (fun gv i wr => ∃ (m : Nat) (ga : Option Addr) (gn gc : Nat), i = .int .i64 (m : Int) ∧ gv = .slice ga gn gc ∧ m ≤ n ∧ Hid (CutInv bs b p2 w m (.slice ga gn gc) wr)) (fun _ i _ => n - (intOf i).toNat)
  case atStart =>
    refine ⟨0, none, 0, 0, rfl, rfl, Nat.zero_le _, hide ⟨World.ownsRow_nil _ _ _ _, HB.out, fun k => w.heap.size ≤ k ∧ k < w1.heap.size, tOne r z, HT2.out.tight, tOne_ok hr (by rw [← hz.out]; exact HO.out.slot b (by rw [hn.out]; exact hb)), ?_, fun k hk => hk.1, fun k hk => hk.2, fun g hg => (by cases hg)⟩⟩
    rw [SL_zero, ← hz.out, ← hbr2.out]
    exact CutOf.start bs b
  case round =>
    clear HT2 HB hc0 c0 c1
    obtain ⟨m, ga, gn, gc, rfl, rfl, hmn, hI⟩ := hrel
    by_cases hlt : m < n
    · obtain ⟨kv, hkv1, hkc⟩ := HC.out m (by rw [hn.out]; exact hlt)
      have hbw : Below w.heap.size w wr := hI.out.2.1
      have LD : Hid ((Instr.loadAt 48 (.pointer (some ⟨g, m * 5, none⟩))).run Tryd.prog wr = .ok (.agg (tcells (tb bs m) kv).toArray) wr) :=
        load_mid (n := 5) Tryd.underlying48 (by kernel_rfl) rfl (fun j hj => (hbw.cell (p := ⟨g, m * 5 + j, none⟩) hgw).trans (hkc j hj))
      have ST : Hid ((Instr.storeAt 48 (.pointer (some ⟨wr.heap.size, 0, none⟩)) (.agg (tcells (tb bs m) kv).toArray)).run Tryd.prog (wr.alloc (.cells #[.int .u64 0, .int .i64 0, .int .i64 0, .int .i64 0, .slice none 0 0] 48)) = .ok () (wr.alloc (.cells (tcells (tb bs m) kv).toArray 48))) :=
        store_new (n := 5) (by kernel_rfl) rfl rfl (tR_one _ (tb bs m, kv) ⟨rfl, hkv1⟩) rfl
      have hmi : (m : Int) < (n : Int) := by omega
      have HN := hide (OAt.new wr (.cells (tcells (tb bs m) kv).toArray 48))
      have HI2 := hide (hI.out.below (below_alloc wr (.cells (tcells (tb bs m) kv).toArray 48)))
      have HBW := hide (below_alloc wr (.cells (tcells (tb bs m) kv).toArray 48))
      have hwr := hide hbw.size
      clear hkc hbw
      go_upto_region 10 with (first
        | (refine wpList_load_at 48 (.tmp 40) rfl rfl (.pointer (some ⟨g, m * 5, none⟩)) rfl (.agg _) LD.out ?_)
        | (refine wpList_store_at 48 (.tmp 10) (.tmp 41) rfl rfl (.pointer (some ⟨wr.heap.size, 0, none⟩)) (.agg _) rfl rfl _ ST.out ?_))
      clear LD ST
      go_frame
      generalize wr.alloc (.cells (tcells (tb bs m) kv).toArray 48) = wa at HN HI2 HBW ⊢
      obtain ⟨h, hh⟩ : ∃ h, Hid (wr.heap.size = h) := ⟨_, rfl⟩
      rw [hh.out] at HN ⊢
      by_cases hmb : m = b
      · subst hmb
        go_wp2
        go_roundw
        case rel => exact ⟨m + 1, _, _, _, by go_num, rfl, by omega, hide HI2.out.self⟩
        case measure => simp [intOf]; omega
      · have hmb1 : ((m : Int) == (b : Int)) = false := by simp; omega
        have HTW := hide (hTw.out.below HI2.out.2.1)
        have HST := hide (stands_any F p bs m b wa HTW.out HO.out (by rw [hn.out]; exact hlt) (by rw [hn.out]; exact hb))
        have q0 := HN.out.cell 0
        have q1 := HN.out.cell 1
        have q2 := HN.out.cell 2
        simp only [tcells, List.getElem?_toArray, List.getElem?_cons_zero, List.getElem?_cons_succ] at q0 q1 q2
        have e0 : wa.cell? ⟨p, 0, none⟩ = some (.slice (some ⟨g, 0, none⟩) n c) := by
          rw [HI2.out.2.1.cell (p := ⟨p, 0, none⟩) hpw, HP.out.cell]
          simp [hn.out]
        obtain ⟨R, hR⟩ : ∃ R, Hid ((tb bs m).root = R) := ⟨_, rfl⟩
        obtain ⟨Q, hQ⟩ : ∃ R, Hid ((tb bs m).par = R) := ⟨_, rfl⟩
        obtain ⟨Z, hZ⟩ : ∃ R, Hid ((tb bs m).slot = R) := ⟨_, rfl⟩
        by_cases hst : climb bs b m = b
        · rw [show decide (climb bs b m = b) = true from by simp [hst]] at HST
          obtain ⟨_, _, F2, ts, hT2, hO2, hC2, hF2, hF3, hF4⟩ := hI.out
          have h1 := HI2.out.1
          have h2 := HI2.out.2.1
          replace hT2 := hT2.below HBW.out
          have hnh : ¬ F2 h := fun hf => by have := hF3 _ hf; rw [hh.out] at this; omega
          have hnp : ¬ F2 p := fun hf => by have := hF2 _ hf; omega
          have hng : ¬ F2 g := fun hf => by have := hF2 _ hf; omega
          have hF3' : ∀ k, F2 k → k < wa.heap.size := fun k hk => Nat.lt_of_lt_of_le (hF3 k hk) HBW.out.size
          obtain ⟨sp1, sp2⟩ := stands_par HO.out (by rw [hn.out]; exact hlt) hst hmb
          have hmemP : (tb bs m).par ∈ SL bs b m := mem_SL.2 (by
            by_cases e : (tb bs m).par = b
            · exact .inl e
            · exact .inr ⟨sp2, e, sp1⟩)
          obtain ⟨o, ho1, ho2, ho3⟩ := hC2.find hO2 hmemP
          have hSlt : ∀ i ∈ SL bs b m, i < bs.length := fun i hi => by
            rw [hn.out]
            rcases mem_SL.1 hi with e | e
            · rw [e]; exact hb
            · omega
          have hnot : m ∉ SL bs b m := fun hi => by
            rcases mem_SL.1 hi with e | e
            · exact hmb e
            · omega
          have hnone := hC2.none HO.out hSlt (by rw [hn.out]; exact hlt) hnot
          have hlen2 : ts.length < 1024 := by
            rw [hC2.len]
            have := SL_len bs b m
            have h3 := stands_ge hst
            have := SL_GL_len bs b m (by omega)
            omega
          obtain ⟨mb2, g2, c2, d0, d1, hM2, _⟩ := hT2.open hO2.pos
          have HLK : Hid (∀ w' : World, w'.cell? ⟨p2, 1, none⟩ = some (.map (some mb2)) → (∃ F' ts', TAt w' F' p2 ts' ∧ TOk ts' ∧ idx ts' (tb bs (tb bs m).par).root = some o) → (Instr.lookup 50 (.map (some mb2)) (.int .u64 (tb bs (tb bs m).par).root) false).run Tryd.prog w' = .ok (.int .i64 (o : Int)) w') := fun w' hd hh => by
            obtain ⟨F', ts', hT', hO', hi'⟩ := hh
            obtain ⟨mb3, g3, c3, _, d3, hM3, _⟩ := hT'.open hO'.pos
            rw [hd] at d3
            cases d3
            have := hM3.look1 (tb bs (tb bs m).par).root (HO.out.root _ (HO.out.par_le (by rw [hn.out]; exact hlt)))
            rw [hi'] at this
            exact this
          obtain ⟨RP, hRP⟩ : ∃ R, Hid ((tb bs (tb bs m).par).root = R) := ⟨_, rfl⟩
          have hparl : (tb bs m).par < bs.length := HO.out.par_le (by rw [hn.out]; exact hlt)
          have q5 : wa.cell? ⟨g, (tb bs m).par * 5, none⟩ = some (.int .u64 (tb bs (tb bs m).par).root) := by
            obtain ⟨kv2, _, hk2⟩ := HC.out (tb bs m).par hparl
            exact (h2.cell (p := ⟨g, (tb bs m).par * 5, none⟩) hgw).trans (hk2 0 (by omega))
          have HLY := hide (lay_any F2 p2 ts (tb bs m).root o (tb bs m).slot wa.drew hT2.drew hO2 hnone (HO.out.root m (by rw [hn.out]; exact hlt)) (HO.out.slot m (by rw [hn.out]; exact hlt)) ho2 hlen2)
          have hRne : (tb bs (tb bs m).par).root ≠ (tb bs m).root := fun e => by have := HO.out.one _ _ hparl (by rw [hn.out]; exact hlt) e; omega
          have hQn : (tb bs m).par < n := by rw [← hn.out]; exact hparl
          have HS0 : Hid (wa.cell? ⟨h, 0, none⟩ = some (.int .u64 R) ∧ wa.cell? ⟨h, 1, none⟩ = some (.int .i64 (Q : Int)) ∧ wa.cell? ⟨h, 2, none⟩ = some (.int .i64 Z) ∧ wa.cell? ⟨p, 0, none⟩ = some (.slice (some ⟨g, 0, none⟩) n c) ∧ wa.cell? ⟨p2, 1, none⟩ = some (.map (some mb2)) ∧ wa.cell? ⟨g, Q * 5, none⟩ = some (.int .u64 RP) ∧ (Instr.lookup 50 (.map (some mb2)) (.int .u64 RP) false).run Tryd.prog wa.drew = .ok (.int .i64 (o : Int)) wa.drew) := by
            rw [← hR.out, ← hQ.out, ← hZ.out, ← hRP.out]
            exact hide ⟨q0, q1, q2, e0, d1, q5, HLK.out wa.drew d1 ⟨F2, ts, hT2.drew, hO2, ho1⟩⟩
          have HEND : Hid (∀ w'', Laid F2 p2 ts (tb bs m).root o (tb bs m).slot wa.drew (.returned (.tuple #[])) w'' → (w''.cell? ⟨h, 0, none⟩ = some (.int .u64 R) ∧ w''.cell? ⟨h, 1, none⟩ = some (.int .i64 (Q : Int)) ∧ w''.cell? ⟨h, 2, none⟩ = some (.int .i64 Z) ∧ w''.cell? ⟨p, 0, none⟩ = some (.slice (some ⟨g, 0, none⟩) n c) ∧ w''.cell? ⟨p2, 1, none⟩ = some (.map (some mb2)) ∧ w''.cell? ⟨g, Q * 5, none⟩ = some (.int .u64 RP) ∧ (Instr.lookup 50 (.map (some mb2)) (.int .u64 RP) false).run Tryd.prog w'' = .ok (.int .i64 (o : Int)) w'') ∧ CutInv bs b p2 w (m + 1) (.slice ga gn gc) w'') := fun w'' hL2 => by
            obtain ⟨_, hcp, F', k, hT', hk', hS', hTu, hF'⟩ := hL2
            have hd1 : w''.cell? ⟨p2, 1, none⟩ = some (.map (some mb2)) := hcp.trans d1
            have hOk := layB_ok (k := k) hO2 hnone (HO.out.root m (by rw [hn.out]; exact hlt)) (HO.out.slot m (by rw [hn.out]; exact hlt)) ho2 hlen2 hk' hS'
            have hcl : ∀ x y, x < wa.heap.size → ¬ F2 x → w''.cell? ⟨x, y, none⟩ = wa.cell? ⟨x, y, none⟩ := fun x y hx hn2 => World.cell?_of_block (a := ⟨x, y, none⟩) (hTu.block x hx hn2)
            have hhl : h < wa.heap.size := HN.out.lt
            have hpl : p < wa.heap.size := Nat.lt_of_lt_of_le hpw h2.size
            have hgl : g < wa.heap.size := Nat.lt_of_lt_of_le hgw h2.size
            have s0 := HS0.out
            refine ⟨⟨(hcl h 0 hhl hnh).trans s0.1, (hcl h 1 hhl hnh).trans s0.2.1, (hcl h 2 hhl hnh).trans s0.2.2.1, (hcl p 0 hpl hnp).trans s0.2.2.2.1, hd1, (hcl g _ hgl hng).trans s0.2.2.2.2.2.1, ?_⟩, ?_⟩
            · rw [← hRP.out]
              exact HLK.out w'' hd1 ⟨F', _, hT', hOk, by rw [idx_lay _ _ _ _ _ hnone, if_neg hRne]; exact ho1⟩
            · refine ⟨?_, ?_, fun i => F' i ∧ i < w''.heap.size, _, hT'.tight, hOk, ?_, fun i hi => ?_, fun i hi => hi.2, fun i hi hf => ?_⟩
              · rw [GL_in hst]
                exact owns_turn h1 (F := F2) ⟨hTu.os, hTu.tape, hTu.output, hTu.size, hTu.block⟩ hF4
              · exact h2.trans ⟨hTu.os, hTu.tape, hTu.output, hTu.size, fun i hi => hTu.block i (Nat.lt_of_lt_of_le hi h2.size) (fun hf => by have := hF2 i hf; omega)⟩
              · rw [SL_in hst hmb]
                exact hC2.step ho2 ho3
              · rcases hF' i hi.1 with h3 | h3
                · exact hF2 i h3
                · exact Nat.le_trans h2.size h3
              · rcases hF' i hf.1 with h3 | h3
                · exact hF4 i hi h3
                · have := (h1.lt i hi).2
                  have h4 : wa.heap.size ≤ i := h3
                  omega
          rw [hR.out, hZ.out] at HLY HEND
          have hQn2 : (Q : Int) < (n : Int) := by rw [← hQ.out]; omega
          rw [hQ.out] at hQn
          clear q0 q1 q2 e0 d0 d1 q5 HLK hT2 hO2 hC2 hF2 hF3 hF3' hF4 hnh hnp hng h1 h2 sp1 sp2 hmemP ho1 ho2 ho3 hSlt hnot hnone hlen2 hM2 hRne hparl hQ hR hZ hRP HN HTW HI2 hI
          go_upto_region 12 with (go_at_call 17; refine HST.out.mono ?_; rintro e w' ⟨rfl, hw⟩; obtain rfl : _ = w' := hw.symm)
          refine wp_region_noPanic ?_
          refine wp_region_held_drew (S := fun w' => w'.cell? ⟨h, 0, none⟩ = some (.int .u64 R) ∧ w'.cell? ⟨h, 1, none⟩ = some (.int .i64 (Q : Int)) ∧ w'.cell? ⟨h, 2, none⟩ = some (.int .i64 Z) ∧ w'.cell? ⟨p, 0, none⟩ = some (.slice (some ⟨g, 0, none⟩) n c) ∧ w'.cell? ⟨p2, 1, none⟩ = some (.map (some mb2)) ∧ w'.cell? ⟨g, Q * 5, none⟩ = some (.int .u64 RP) ∧ (Instr.lookup 50 (.map (some mb2)) (.int .u64 RP) false).run Tryd.prog w' = .ok (.int .i64 (o : Int)) w') (by kernel_rfl) HS0.out (fun hHeld => ?_)
          refine take_set (i := 0) (v := .pointer (some ⟨p2, 0, none⟩)) rfl rfl (by kernel_rfl) (by kernel_rfl) (by kernel_rfl) (fun _ _ _ h => h) (Or.inl ⟨by kernel_rfl, fun w' hSw => ?_⟩) hHeld ?_
          · go_simp
          simp only [List.set_cons_succ, List.set_cons_zero]
          refine take_set (i := 1) (v := .pointer (some ⟨h, 0, none⟩)) rfl rfl (by kernel_rfl) (by kernel_rfl) (by kernel_rfl) (fun _ _ _ h => h) (Or.inl ⟨by kernel_rfl, fun w' hSw => ?_⟩) hHeld ?_
          · go_simp
          simp only [List.set_cons_succ, List.set_cons_zero]
          refine take_set (i := 2) (v := .int .u64 R) rfl rfl (by kernel_rfl) (by kernel_rfl) (by kernel_rfl) (fun _ _ _ h => h) (Or.inl ⟨by kernel_rfl, fun w' hSw => ?_⟩) hHeld ?_
          · go_simp
          simp only [List.set_cons_succ, List.set_cons_zero]
          refine take_set (i := 3) (v := .pointer (some ⟨p2, 0, none⟩)) rfl rfl (by kernel_rfl) (by kernel_rfl) (by kernel_rfl) (fun _ _ _ h => h) (Or.inl ⟨by kernel_rfl, fun w' hSw => ?_⟩) hHeld ?_
          · go_simp
          simp only [List.set_cons_succ, List.set_cons_zero]
          refine take_set (i := 4) (v := .pointer (some ⟨p2, 0, none⟩)) rfl rfl (by kernel_rfl) (by kernel_rfl) (by kernel_rfl) (fun _ _ _ h => h) (Or.inl ⟨by kernel_rfl, fun w' hSw => ?_⟩) hHeld ?_
          · go_simp
          simp only [List.set_cons_succ, List.set_cons_zero]
          refine take_set (i := 5) (v := .pointer (some ⟨p2, 1, none⟩)) rfl rfl (by kernel_rfl) (by kernel_rfl) (by kernel_rfl) (fun _ _ _ h => h) (Or.inl ⟨by kernel_rfl, fun w' hSw => ?_⟩) hHeld ?_
          · go_simp
          simp only [List.set_cons_succ, List.set_cons_zero]
          refine take_set (i := 6) (v := .map (some mb2)) rfl rfl (by kernel_rfl) (by kernel_rfl) (by kernel_rfl) (fun _ _ _ h => h) (Or.inl ⟨by kernel_rfl, fun w' hSw => ?_⟩) hHeld ?_
          · go_simp
          simp only [List.set_cons_succ, List.set_cons_zero]
          refine take_set (i := 7) (v := .pointer (some ⟨p, 0, none⟩)) rfl rfl (by kernel_rfl) (by kernel_rfl) (by kernel_rfl) (fun _ _ _ h => h) (Or.inl ⟨by kernel_rfl, fun w' hSw => ?_⟩) hHeld ?_
          · go_simp
          simp only [List.set_cons_succ, List.set_cons_zero]
          refine take_set (i := 8) (v := .pointer (some ⟨p, 0, none⟩)) rfl rfl (by kernel_rfl) (by kernel_rfl) (by kernel_rfl) (fun _ _ _ h => h) (Or.inl ⟨by kernel_rfl, fun w' hSw => ?_⟩) hHeld ?_
          · go_simp
          simp only [List.set_cons_succ, List.set_cons_zero]
          refine take_set (i := 9) (v := .pointer (some ⟨p, 0, none⟩)) rfl rfl (by kernel_rfl) (by kernel_rfl) (by kernel_rfl) (fun _ _ _ h => h) (Or.inl ⟨by kernel_rfl, fun w' hSw => ?_⟩) hHeld ?_
          · go_simp
          simp only [List.set_cons_succ, List.set_cons_zero]
          refine take_set (i := 10) (v := .slice (some ⟨g, 0, none⟩) n c) rfl rfl (by kernel_rfl) (by kernel_rfl) (by kernel_rfl) (fun _ _ _ h => h) (Or.inl ⟨by kernel_rfl, fun w' hSw => ?_⟩) hHeld ?_
          · go_simp
          simp only [List.set_cons_succ, List.set_cons_zero]
          refine take_set (i := 11) (v := .pointer (some ⟨h, 1, none⟩)) rfl rfl (by kernel_rfl) (by kernel_rfl) (by kernel_rfl) (fun _ _ _ h => h) (Or.inl ⟨by kernel_rfl, fun w' hSw => ?_⟩) hHeld ?_
          · go_simp
          simp only [List.set_cons_succ, List.set_cons_zero]
          refine take_set (i := 12) (v := .int .i64 (Q : Int)) rfl rfl (by kernel_rfl) (by kernel_rfl) (by kernel_rfl) (fun _ _ _ h => h) (Or.inl ⟨by kernel_rfl, fun w' hSw => ?_⟩) hHeld ?_
          · go_simp
          simp only [List.set_cons_succ, List.set_cons_zero]
          refine take_set (i := 13) (v := .pointer (some ⟨g, Q * 5, none⟩)) rfl rfl (by kernel_rfl) (by kernel_rfl) (by kernel_rfl) (fun _ _ _ h => h) (Or.inl ⟨by kernel_rfl, fun w' hSw => ?_⟩) hHeld ?_
          · go_simp
          simp only [List.set_cons_succ, List.set_cons_zero]
          refine take_set (i := 14) (v := .pointer (some ⟨g, Q * 5, none⟩)) rfl rfl (by kernel_rfl) (by kernel_rfl) (by kernel_rfl) (fun _ _ _ h => h) (Or.inl ⟨by kernel_rfl, fun w' hSw => ?_⟩) hHeld ?_
          · go_simp
          simp only [List.set_cons_succ, List.set_cons_zero]
          refine take_set (i := 15) (v := .int .u64 RP) rfl rfl (by kernel_rfl) (by kernel_rfl) (by kernel_rfl) (fun _ _ _ h => h) (Or.inl ⟨by kernel_rfl, fun w' hSw => ?_⟩) hHeld ?_
          · go_simp
          simp only [List.set_cons_succ, List.set_cons_zero]
          refine take_set (i := 16) (v := .int .i64 (o : Int)) rfl rfl (by kernel_rfl) (by kernel_rfl) (by kernel_rfl) (fun _ _ _ h => h) (Or.inl ⟨by kernel_rfl, fun w' hSw => ?_⟩) hHeld ?_
          · go_simp
          simp only [List.set_cons_succ, List.set_cons_zero]
          refine take_set (i := 17) (v := .pointer (some ⟨h, 2, none⟩)) rfl rfl (by kernel_rfl) (by kernel_rfl) (by kernel_rfl) (fun _ _ _ h => h) (Or.inl ⟨by kernel_rfl, fun w' hSw => ?_⟩) hHeld ?_
          · go_simp
          simp only [List.set_cons_succ, List.set_cons_zero]
          refine take_set (i := 18) (v := .int .i64 Z) rfl rfl (by kernel_rfl) (by kernel_rfl) (by kernel_rfl) (fun _ _ _ h => h) (Or.inl ⟨by kernel_rfl, fun w' hSw => ?_⟩) hHeld ?_
          · go_simp
          simp only [List.set_cons_succ, List.set_cons_zero]
          refine wpAnyH_ready (rs := [19]) (by kernel_rfl) (by simp) ?_
          refine AllReadyH.cons (o := _) rfl (fun K hK => ?_) AllReadyH.nil
          go_simp
          refine HLY.out.mono ?_
          rintro e w'' hLd
          obtain rfl := hLd.1
          obtain ⟨hs1, hinv⟩ := HEND.out w'' hLd
          have HINV := hide hinv
          refine hK.out _ _ (hs1) (fun hHeld => ?_)
          clear hK K
          refine wpAnyH_done (by kernel_rfl) ?_ _
          refine NoPanic.normal ?_
          clear hs1 hinv hLd
          go_wp2
          go_roundw
          case rel => exact ⟨m + 1, _, _, _, by go_num, rfl, by omega, HINV⟩
          case measure => simp [intOf]; omega
        · rw [show decide (climb bs b m = b) = false from by simp [hst]] at HST
          obtain ⟨h1, h2, F2, ts, hT2, hO2, hC2, hF2, hF3, hF4⟩ := HI2.out
          rw [hR.out] at q0
          have hgl : (GL bs b m).length = gn := by
            rcases h1.2 with ⟨e, h0⟩ | ⟨g', cap, cur, e, _⟩
            · cases e; exact h0
            · cases e; rfl
          have hgn : gn ≤ m := by rw [← hgl]; exact GL_len bs b m
          have H1 : Hid ((wa.alloc (.cells #[.int .u64 R] 26)).ownsRow w.heap.size 26 1 (.slice ga gn gc) gn ((GL bs b m).map (Value.int .u64))) := by
            have := h1.alloc (.cells #[.int .u64 R] 26)
            rw [hgl] at this
            exact this
          obtain ⟨i0, hi0, hz0, hz1, hz2⟩ := info_parts (show (Tryd.prog.info? 26).map (fun i => (i.zero, i.size, i.bytes)) = some (some (.int .u64 0), 1, 8) by kernel_rfl)
          have hc1 : gn + 1 ≤ maxLen := by unfold maxLen; omega
          have hws : w.heap.size ≤ (wa.alloc (.cells #[.int .u64 R] 26)).heap.size := by have := h2.size; simp; omega
          have HNX : Hid (∀ v' w', w'.ownsRow w.heap.size 26 1 v' (gn + 1) ((GL bs b m).map (Value.int .u64) ++ [.int .u64 R]) → (wa.alloc (.cells #[.int .u64 R] 26)).grownBy w' (Value.slice ga gn gc).ownBlock → (v'.ownBlock = (Value.slice ga gn gc).ownBlock ∨ v'.ownBlock = some (wa.alloc (.cells #[.int .u64 R] 26)).heap.size) → CutInv bs b p2 w (m + 1) v' w') := fun v' w' ho hg hloc => by
            have hT : Turn (fun k => (Value.slice ga gn gc).ownBlock = some k) (wa.alloc (.cells #[.int .u64 R] 26)) w' := .grown hg
            have hbn : ∀ i, (Value.slice ga gn gc).ownBlock = some i → w.heap.size ≤ i := fun i hi => (h1.lt i hi).1
            refine ⟨?_, ?_, F2, ts, (hT2.alloc _).turn hT (fun i hi e => hF4 i e hi), hO2, by rw [SL_out hst]; exact hC2, hF2, fun k hk => ?_, fun i hi hf => ?_⟩
            · rw [GL_out hst, hR.out, List.map_append, List.length_append, hgl]
              exact ho
            · exact h2.trans (((below_alloc wa _).mono h2.size).trans (hT.below (by have := h2.size; simp; omega) hbn))
            · have := hF3 k hk
              have := hT.size
              simp at this
              omega
            · rcases hloc with e | e
              · rw [e] at hi; exact hF4 i hi hf
              · rw [e] at hi
                cases hi
                have := hF3 _ hf
                rw [World.size_alloc] at this
                omega
          clear h1 h2 hT2 hO2 hC2 hF2 hF3 hF4 HTW HI2 hI HN q1 q2 e0 hwr HBW hQ hZ
          go_wp2_with (first
            | (go_at_call 17; refine HST.out.mono ?_; rintro e w' ⟨rfl, hw⟩; obtain rfl : _ = w' := hw.symm)
            | (at_builtin; refine stopHere ?_))
          unfold Stop
          refine wpList_append_own_at _ rfl _ _ 33 rfl w.heap.size 26 i0 (.int .u64 0) 1 8 Tryd.underlying33 hi0 hz0 hz1 hz2 rfl (by decide) (.slice ga gn gc) gn ((GL bs b m).map (Value.int .u64)) rfl H1.out ⟨wa.heap.size, 0, none⟩ 1 1 [.int .u64 R] rfl rfl (cell_one_new _ _ _) (by simp [Value.oneCell']) hc1 (by omega) hws ?_
          intro v' w6 hown6 hg6 hnil6 hloc6
          have hinv := HNX.out v' w6 hown6 hg6 hloc6
          have hform : ∃ va' vc', v' = .slice va' (gn + 1) vc' := by
            rcases hown6.2 with ⟨_, h⟩ | ⟨g', cap, cur, h, _⟩
            · omega
            · exact ⟨_, _, h⟩
          obtain ⟨va', vc', rfl⟩ := hform
          have HINV := hide hinv
          clear hown6 hg6 hnil6 hloc6 hinv HNX H1 HST
          go_wp2
          go_roundw
          case rel => exact ⟨m + 1, _, _, _, by go_num, rfl, by omega, HINV⟩
          case measure => simp [intOf]; omega
    · obtain rfl : m = n := by omega
      obtain ⟨h1, h2, F2, ts, hT2, hO2, hC2, hF2, hF3, hF4⟩ := hI.out
      obtain ⟨mb2, bv2, ks2, hP2, hB2, hM2, f1, f2, f3⟩ := hT2
      have hpp : p ≠ p2 := fun e => by subst e; have := hF2 _ f1; omega
      have oP : OAt wr p (.cells #[.slice (some ⟨g, 0, none⟩) m c, .map (some mb)] 52) := by
        have := HP.out.below h2
        rw [hn.out] at this
        exact this
      have LD : Hid ((Instr.loadAt 52 (.pointer (some ⟨p2, 0, none⟩))).run Tryd.prog wr = .ok (.agg #[bv2, .map (some mb2)]) wr) := load_obj (n := 2) Tryd.underlying52 (by kernel_rfl) rfl hP2.at_
      obtain ⟨bva, bvc, hbv, _⟩ := hB2.cells
      obtain ⟨w3, hrun, ho3, ha3⟩ := store_obj (P := Tryd.prog) (w := wr) (h := p) (n := 2) (ty := 52) (cs := [bv2, .map (some mb2)]) (by kernel_rfl) rfl rfl (by rw [hbv]; simp [Value.oneCell']) oP.at_
      have T3 : Turn (fun k => k = p) wr w3 := .apart ha3
      have hgl : (GL bs b m).length = gn := by
        rcases h1.2 with ⟨e, h0⟩ | ⟨g', cap, cur, e, _⟩
        · cases e; exact h0
        · cases e; rfl
      have hgp : ∀ q, (Value.slice ga gn gc).ownBlock = some q → ¬ q = p := fun q hq e => by subst e; have := (h1.lt _ hq).1; omega
      have o3 := owns_turn h1 T3 hgp
      have hlg : (GL bs b m).length ≤ L := by
        have := SL_GL_len bs b m hb
        have h5 : 1 ≤ (SL bs b m).length := by simp [SL]
        omega
      have HSO := hide (hL w.heap.size (.slice ga gn gc) (GL bs b m) w3 o3 (GL_nodup HO.out b m (by rw [hn.out]; exact Nat.le_refl _)) hlg)
      have HEND : Hid (∀ w5, SortedAt w3 w.heap.size (.slice ga gn gc) (GL bs b m).length (GL bs b m) (.returned (.tuple #[])) w5 → CutDone F p bs b w (.returned (.slice ga gn gc)) w5) := fun w5 h5 => by
        obtain ⟨_, s1, s2⟩ := h5
        have T5 : Turn (fun k => (Value.slice ga gn gc).ownBlock = some k) w3 w5 := .grown s2
        have hTt : TAt w5 (fun k => F2 k ∨ k = p) p ts := by
          have t3 : TAt w3 (fun k => F2 k ∨ k = p) p ts := ⟨mb2, bv2, ks2, OAt.of ho3, hB2.turn T3 (fun q hq e => by
            subst e
            have := hF2 _ (f3 _ hq)
            omega), hM2.of (T3.block mb2 hM2.lt (fun e => by subst e; have := hF2 _ f2; omega)), .inr rfl, .inl f2, fun k hk => .inl (f3 k hk)⟩
          refine t3.turn T5 (fun q hq e => ?_)
          rcases hq with hq | hq
          · exact hF4 q e hq
          · exact hgp q e hq
        refine ⟨_, rfl, by rw [hn.out]; exact s1, fun k => F2 k ∨ k = p, ts, hTt, hO2, by rw [hn.out]; exact hC2, ?_, fun i hi => ?_, fun q hq hf => ?_⟩
        · refine ⟨T5.os.trans (T3.os.trans h2.os), T5.tape.trans (T3.tape.trans h2.tape), T5.output.trans (T3.output.trans h2.output), Nat.le_trans h2.size (Nat.le_trans T3.size T5.size), fun k hk hF => ?_⟩
          rw [T5.block k (Nat.lt_of_lt_of_le hk (Nat.le_trans h2.size T3.size)) (fun e => by have := (h1.lt _ e).1; omega), T3.block k (Nat.lt_of_lt_of_le hk h2.size) (fun e => by subst e; exact hF HF.out.1), h2.block k hk]
        · rcases hi with hi | hi
          · exact .inr (hF2 i hi)
          · rw [hi]; exact .inl HF.out.1
        · rcases hf with hf | hf
          · exact hF4 q hq hf
          · exact hgp q hq hf
      have HRUN := hide hrun
      clear h1 h2 hP2 hB2 hM2 f1 f2 f3 hO2 hC2 hF2 hF3 hF4 oP hrun ho3 ha3 T3 o3 hI hgp hlg hbv
      go_wp2_with (first
        | (refine wpList_load_at 52 (.tmp 79) rfl rfl (.pointer (some ⟨p2, 0, none⟩)) rfl (.agg _) LD.out ?_)
        | (refine wpList_store_at 52 (.tmp 81) (.tmp 80) rfl rfl (.pointer (some ⟨p, 0, none⟩)) (.agg _) rfl rfl _ HRUN.out ?_)
        | (go_at_call 19; refine HSO.out.mono ?_; rintro e w5 h5; obtain rfl := h5.1))
      go_ret
      exact HEND.out _ (by assumption)
end Go.Proofs.YtphahkjjmomjcaaDoor

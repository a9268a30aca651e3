/- Contracts of Get and Roots. -/
import Derived.Test.YtphahkjjmomjcaaDoorTCut

import Derived.OwnWalk

namespace Go.Proofs.YtphahkjjmomjcaaDoor

open Go.ChangeShapes Go.WideShapes Go.ChangeAt Go.RowKit

set_option linter.unusedVariables false

theorem get_none (F : Nat → Prop) (p : Nat) (bs : List TBlk) (r : Int) (w : World) (hT : TAt w F p bs) (hO : TOk bs) (hr : U64 r) (hx : idx bs r = none) :
    Calls Tryd.prog 24 #[.pointer (some ⟨p, 0, none⟩), .int .u64 r] w fun e w' => e = .returned (.tuple #[.int .u64 0, .int .i64 0, .int .i64 0, .bool false]) ∧ w' = w := by
  obtain ⟨mb, g, c, c0, c1, hM, hc, hcm, hcell⟩ := hT.open hO.pos
  have hlook := hM.look r hr
  rw [hx] at hlook
  simp only [Option.isSome_none, Option.getD_none] at hlook
  clear hM hcell hT hx hcm hc
  go_enter Tryd.func24, Tryd.ntmps24
  go_wp2
  refine bodyPost_ret (v := .tuple #[.int .u64 0, .int .i64 0, .int .i64 0, .bool false]) (by simp [results, Tryd.results24, go_sem]) rfl ⟨rfl, rfl⟩
/-- what Get tells of a block that is there -/
def getV (bs : List TBlk) (i : Nat) : Value := .tuple #[.int .u64 (tb bs (tb bs i).par).root, .int .i64 (tb bs i).slot, .int .i64 ((tb bs i).high : Int), .bool true]
set_option maxRecDepth 100000 in
set_option maxHeartbeats 1000000 in
theorem get_any (F : Nat → Prop) (p : Nat) (bs : List TBlk) (r : Int) (i : Nat) (w : World) (hT : TAt w F p bs) (hO : TOk bs) (hr : U64 r) (hx : idx bs r = some i) :
    Calls Tryd.prog 24 #[.pointer (some ⟨p, 0, none⟩), .int .u64 r] w fun e w' => e = .returned (getV bs i) ∧ Below w.heap.size w w' := by
  obtain ⟨mb, bv, ks, hP, hB, hM, hFp, hFm, hFb⟩ := hT
  obtain ⟨ao, c, rfl, hc, hcm, hcell⟩ := hB.cells
  obtain ⟨hi, hir⟩ := idx_some hx
  obtain ⟨g, rfl, hgw, hco⟩ := hcell i hi
  obtain ⟨g', e, _, hcp⟩ := hcell (tb bs i).par (hO.par_le hi)
  cases e
  have k0 := hcp 0 (by omega)
  rw [← tb_lt (hO.par_le hi)] at k0
  rw [← tb_lt hi] at hco
  simp only [tcells, List.getElem?_cons_zero, Nat.add_zero] at k0
  have hlook := hM.look r hr
  rw [hx] at hlook
  simp only [Option.isSome_some, Option.getD_some] at hlook
  have c0 := hP.cell 0
  have c1 := hP.cell 1
  simp only [List.getElem?_toArray, List.getElem?_cons_zero, List.getElem?_cons_succ] at c0 c1
  have hkv1 : (ks.getD i (.slice none 0 0)).oneCell' = true := by
    obtain ⟨ao', c', e, _⟩ := RowIn.ofOwned (hB.kid i hi)
    rw [e]; rfl
  have hoi : (i : Int) < (bs.length : Int) := by omega
  have hqi : ((tb bs i).par : Int) < (bs.length : Int) := by have := hO.par_le hi; omega
  have hql := hO.par_le hi
  generalize ks.getD i (.slice none 0 0) = kv at hco hkv1
  have LD : Hid ((Instr.loadAt 48 (.pointer (some ⟨g, i * 5, none⟩))).run Tryd.prog w = .ok (.agg (tcells (tb bs i) kv).toArray) w) :=
    load_mid (n := 5) Tryd.underlying48 (by kernel_rfl) rfl hco
  have ST : Hid ((Instr.storeAt 48 (.pointer (some ⟨w.heap.size, 0, none⟩)) (.agg (tcells (tb bs i) kv).toArray)).run Tryd.prog (w.alloc (.cells #[.int .u64 0, .int .i64 0, .int .i64 0, .int .i64 0, .slice none 0 0] 48)) = .ok () (w.alloc (.cells (tcells (tb bs i) kv).toArray 48))) :=
    store_new (n := 5) (by kernel_rfl) rfl rfl (tR_one _ (tb bs i, kv) ⟨rfl, hkv1⟩) rfl
  have HN := hide (OAt.new w (.cells (tcells (tb bs i) kv).toArray 48))
  have hbl := below_alloc w (.cells (tcells (tb bs i) kv).toArray 48)
  have HBL := hide hbl
  have d0 : (w.alloc (.cells (tcells (tb bs i) kv).toArray 48)).cell? ⟨p, 0, none⟩ = some (.slice (some ⟨g, 0, none⟩) bs.length c) := (hbl.cell (p := ⟨p, 0, none⟩) hP.lt).trans c0
  have d1 : (w.alloc (.cells (tcells (tb bs i) kv).toArray 48)).cell? ⟨g, (tb bs i).par * 5, none⟩ = some (.int .u64 (tb bs (tb bs i).par).root) := (hbl.cell (p := ⟨g, (tb bs i).par * 5, none⟩) hgw).trans k0
  clear hbl
  obtain ⟨Q, hQ⟩ : ∃ q, Hid ((tb bs i).par = q) := ⟨_, rfl⟩
  obtain ⟨Z, hZ⟩ : ∃ q, Hid ((tb bs i).slot = q) := ⟨_, rfl⟩
  obtain ⟨H, hH⟩ : ∃ q, Hid ((tb bs i).high = q) := ⟨_, rfl⟩
  obtain ⟨RP, hRP⟩ : ∃ q, Hid ((tb bs (tb bs i).par).root = q) := ⟨_, rfl⟩
  have hV : Hid (getV bs i = .tuple #[.int .u64 RP, .int .i64 Z, .int .i64 (H : Int), .bool true]) := by show _ = _; rw [getV, hRP.out, hZ.out, hH.out]
  rw [hV.out]
  rw [hRP.out] at d1
  clear hP hB hM hFp hFm hFb hcell hco hx hir hcp k0 hc hcm hO
  generalize hnn : bs.length = n at c0 hoi hqi hql d0 hi
  rw [hQ.out] at d1 hqi hql
  clear hnn
  go_enter Tryd.func24, Tryd.ntmps24
  go_upto_region 5 with (first
    | (refine wpList_load_at 48 (.tmp 27) rfl rfl (.pointer (some ⟨g, i * 5, none⟩)) rfl (.agg _) LD.out ?_)
    | (refine wpList_store_at 48 (.tmp 10) (.tmp 28) rfl rfl (.pointer (some ⟨w.heap.size, 0, none⟩)) (.agg _) rfl rfl _ ST.out ?_))
  clear LD ST c0 c1 hlook
  go_frame
  generalize hwa : w.alloc (.cells (tcells (tb bs i) kv).toArray 48) = wa at HN HBL d0 d1 ⊢
  obtain ⟨h, hh⟩ : ∃ h, Hid (w.heap.size = h) := ⟨_, rfl⟩
  rw [hh.out] at HN ⊢
  have q1 := HN.out.cell 1
  have q2 := HN.out.cell 2
  have q3 := HN.out.cell 3
  simp only [tcells, List.getElem?_toArray, List.getElem?_cons_zero, List.getElem?_cons_succ] at q1 q2 q3
  rw [hQ.out] at q1
  rw [hZ.out] at q2
  rw [hH.out] at q3
  clear hV hRP hQ hZ hH HN hwa
  go_quiet (fail)
  go_wp2
  refine bodyPost_ret (v := .tuple #[.int .u64 RP, .int .i64 Z, .int .i64 (H : Int), .bool true]) (by simp [results, Tryd.results24, go_sem]) rfl ⟨rfl, ?_⟩
  first | exact HBL.out | exact HBL.out.trans ⟨rfl, rfl, rfl, Nat.le_refl _, fun _ _ => rfl⟩

/-- all roots, in the order of the row -/
def rts (bs : List TBlk) : List Int := bs.map (·.root)
theorem rts_take (bs : List TBlk) (k : Nat) (h : k < bs.length) : rts (bs.take (k + 1)) = rts (bs.take k) ++ [(tb bs k).root] := by
  rw [rts, List.take_succ_eq_append_getElem h, List.map_append, tb_lt h]
  rfl
theorem rts_nodup {bs : List TBlk} (hO : TOk bs) : (rts bs).Nodup := by
  rw [List.Nodup, List.pairwise_iff_getElem]
  intro i j hi hj hij e
  simp [rts] at hi hj e
  have := hO.one i j hi hj (by rw [tb_lt hi, tb_lt hj]; exact e)
  omega
/-- what Roots hands back -/
def RootsOf (w : World) (bs : List TBlk) (e : Ending) (w' : World) : Prop := ∃ v, e = .returned v ∧ w'.ownsRow w.heap.size 26 1 v bs.length ((rise (rts bs)).map (Value.int .u64)) ∧ Below w.heap.size w w'
set_option maxRecDepth 100000 in
set_option maxHeartbeats 2000000 in
theorem roots_any (L : Nat) (hL : Sorts L) (F : Nat → Prop) (p : Nat) (bs : List TBlk) (w : World) (hT : TAt w F p bs) (hO : TOk bs) (hbl : bs.length ≤ L) :
    Calls Tryd.prog 23 #[.pointer (some ⟨p, 0, none⟩)] w (RootsOf w bs) := by
  obtain ⟨mb, bv, ks, hP, hB, hM, hFp, hFm, hFb⟩ := hT
  obtain ⟨ao, c, rfl, hc, hcm, hcell⟩ := hB.cells
  obtain ⟨g, rfl, hgw, hxx⟩ := hcell 0 hO.pos
  clear hxx
  have HC : Hid (∀ i, i < bs.length → ∃ kv, kv.oneCell' = true ∧ ∀ j, j < 5 → w.cell? ⟨g, i * 5 + j, none⟩ = (tcells (tb bs i) kv)[j]?) := fun i hi => by
    obtain ⟨g', e, _, h5⟩ := hcell i hi
    cases e
    refine ⟨ks.getD i (.slice none 0 0), ?_, fun j hj => by rw [tb_lt hi]; exact h5 j hj⟩
    obtain ⟨ao', c', e, _⟩ := RowIn.ofOwned (hB.kid i hi)
    rw [e]; rfl
  have c0 := hP.cell 0
  simp only [List.getElem?_toArray, List.getElem?_cons_zero] at c0
  have HP := hide hP
  have hpw := hP.lt
  have HND := hide (rts_nodup hO)
  obtain ⟨n, hn⟩ : ∃ n, Hid (bs.length = n) := ⟨_, rfl⟩
  have hn1 := hO.lim
  rw [hn.out] at c0 hn1
  clear hP hB hM hFp hFm hFb hcell hO hc hcm
  obtain ⟨i0, hi, hz0, hz1, hz2⟩ := info_parts (show (Tryd.prog.info? 26).map (fun i => (i.zero, i.size, i.bytes)) = some (some (.int .u64 0), 1, 8) by kernel_rfl)
  go_enter Tryd.func23, Tryd.ntmps23
  go_wp2_with (first
    | (at_make; refine wpList_make_own _ rfl _ _ 33 rfl w.heap.size 26 i0 (.int .u64 0) 1 Tryd.underlying33 hi hz0 hz1 _ _ _ n rfl rfl (by omega) ?b2 ?b3 (Nat.le_refl _) ?_))
  case b2 => rw [hz2]; omega
  case b3 => unfold maxLen; omega
  intro w1 hown1 hgrow1
  have hbel : Below w.heap.size w w1 := (Below.refl _ _).grown hgrow1 (Nat.le_refl _) (fun k h => by cases h)
  have hc0 : w1.cell? ⟨p, 0, none⟩ = some (.slice (some ⟨g, 0, none⟩) n c) := (hbel.cell (p := ⟨p, 0, none⟩) hpw).trans c0
  have HB1 := hide hbel
  have HO1 := hide hown1
  clear hbel hgrow1 hown1 c0
  go_wp2
  go_loopw [3, 17] (fun gv i wr => ∃ (m : Nat) (ga : Option Addr) (gc : Nat), i = .int .i64 (m : Int) ∧ gv = .slice ga m gc ∧ m ≤ n ∧ Hid (wr.ownsRow w.heap.size 26 1 (.slice ga m gc) m ((rts (bs.take m)).map (Value.int .u64)) ∧ Below w.heap.size w wr)) (fun _ i _ => n - (intOf i).toNat)
  case atStart =>
    exact ⟨0, _, _, rfl, rfl, Nat.zero_le _, hide ⟨by simpa [rts] using HO1.out, HB1.out⟩⟩
  case round =>
    clear HO1 HB1 hc0
    obtain ⟨m, ga, gc, rfl, rfl, hmn, hI⟩ := hrel
    by_cases hlt : m < n
    · obtain ⟨kv, hkv1, hkc⟩ := HC.out m (by rw [hn.out]; exact hlt)
      have hbw : Below w.heap.size w wr := hI.out.2
      have LD : Hid ((Instr.loadAt 48 (.pointer (some ⟨g, m * 5, none⟩))).run Tryd.prog wr = .ok (.agg (tcells (tb bs m) kv).toArray) wr) :=
        load_mid (n := 5) Tryd.underlying48 (by kernel_rfl) rfl (fun j hj => (hbw.cell (p := ⟨g, m * 5 + j, none⟩) hgw).trans (hkc j hj))
      have ST : Hid ((Instr.storeAt 48 (.pointer (some ⟨wr.heap.size, 0, none⟩)) (.agg (tcells (tb bs m) kv).toArray)).run Tryd.prog (wr.alloc (.cells #[.int .u64 0, .int .i64 0, .int .i64 0, .int .i64 0, .slice none 0 0] 48)) = .ok () (wr.alloc (.cells (tcells (tb bs m) kv).toArray 48))) :=
        store_new (n := 5) (by kernel_rfl) rfl rfl (tR_one _ (tb bs m, kv) ⟨rfl, hkv1⟩) rfl
      have hmi : (m : Int) < (n : Int) := by omega
      have HN := hide (OAt.new wr (.cells (tcells (tb bs m) kv).toArray 48))
      have HI2 := hide (⟨hI.out.1.alloc _, hbw.trans ((below_alloc wr _).mono hbw.size)⟩ : (wr.alloc (.cells (tcells (tb bs m) kv).toArray 48)).ownsRow w.heap.size 26 1 (.slice ga m gc) m ((rts (bs.take m)).map (Value.int .u64)) ∧ Below w.heap.size w (wr.alloc (.cells (tcells (tb bs m) kv).toArray 48)))
      clear hkc hbw
      go_upto_region 5 with (first
        | (refine wpList_load_at 48 (.tmp 19) rfl rfl (.pointer (some ⟨g, m * 5, none⟩)) rfl (.agg _) LD.out ?_)
        | (refine wpList_store_at 48 (.tmp 5) (.tmp 20) rfl rfl (.pointer (some ⟨wr.heap.size, 0, none⟩)) (.agg _) rfl rfl _ ST.out ?_))
      clear LD ST
      go_frame
      generalize wr.alloc (.cells (tcells (tb bs m) kv).toArray 48) = wa at HN HI2 ⊢
      obtain ⟨h, hh⟩ : ∃ h, Hid (wr.heap.size = h) := ⟨_, rfl⟩
      rw [hh.out] at HN ⊢
      have q0 := HN.out.cell 0
      simp only [tcells, List.getElem?_toArray, List.getElem?_cons_zero] at q0
      obtain ⟨R, hR⟩ : ∃ R, Hid ((tb bs m).root = R) := ⟨_, rfl⟩
      rw [hR.out] at q0
      obtain ⟨i1, hi1, hy0, hy1, hy2⟩ := info_parts (show (Tryd.prog.info? 26).map (fun i => (i.zero, i.size, i.bytes)) = some (some (.int .u64 0), 1, 8) by kernel_rfl)
      have hc1 : m + 1 ≤ maxLen := by unfold maxLen; omega
      have hws : w.heap.size ≤ (wa.alloc (.cells #[.int .u64 R] 26)).heap.size := by have := HI2.out.2.size; simp; omega
      have H1 : Hid ((wa.alloc (.cells #[.int .u64 R] 26)).ownsRow w.heap.size 26 1 (.slice ga m gc) m ((rts (bs.take m)).map (Value.int .u64))) := hide (HI2.out.1.alloc _)
      have HNX : Hid (∀ v' w', w'.ownsRow w.heap.size 26 1 v' (m + 1) ((rts (bs.take m)).map (Value.int .u64) ++ [.int .u64 R]) → (wa.alloc (.cells #[.int .u64 R] 26)).grownBy w' (Value.slice ga m gc).ownBlock → w'.ownsRow w.heap.size 26 1 v' (m + 1) ((rts (bs.take (m + 1))).map (Value.int .u64)) ∧ Below w.heap.size w w') := fun v' w' ho hg => by
        have hT : Turn (fun k => (Value.slice ga m gc).ownBlock = some k) (wa.alloc (.cells #[.int .u64 R] 26)) w' := .grown hg
        refine ⟨?_, HI2.out.2.trans (((below_alloc wa _).mono HI2.out.2.size).trans (hT.below (by have := HI2.out.2.size; simp; omega) (fun i hi => (HI2.out.1.lt i hi).1)))⟩
        rw [rts_take bs m (by rw [hn.out]; exact hlt), hR.out, List.map_append]
        exact ho
      clear HI2 hI HN hR
      go_wp2_with (at_builtin; refine stopHere ?_)
      unfold Stop
      refine wpList_append_own_at _ rfl _ _ 33 rfl w.heap.size 26 i1 (.int .u64 0) 1 8 Tryd.underlying33 hi1 hy0 hy1 hy2 rfl (by decide) (.slice ga m gc) m ((rts (bs.take m)).map (Value.int .u64)) rfl H1.out ⟨wa.heap.size, 0, none⟩ 1 1 [.int .u64 R] rfl rfl (cell_one_new _ _ _) (by simp [Value.oneCell']) hc1 (by omega) hws ?_
      intro v' w6 hown6 hg6 hnil6 hloc6
      have hinv := HNX.out v' w6 hown6 hg6
      have hform : ∃ va' vc', v' = .slice va' (m + 1) vc' := by
        rcases hown6.2 with ⟨_, h⟩ | ⟨g', cap, cur, h, _⟩
        · omega
        · exact ⟨_, _, h⟩
      obtain ⟨va', vc', rfl⟩ := hform
      have HINV := hide hinv
      clear hown6 hg6 hnil6 hloc6 hinv HNX H1
      go_wp2
      go_roundw
      case rel => exact ⟨m + 1, _, _, by go_num, rfl, by omega, HINV⟩
      case measure => simp [intOf]; omega
    · obtain rfl : m = n := by omega
      have ht : bs.take m = bs := by rw [← hn.out]; exact List.take_length
      have hl : (rts bs).length = m := by rw [rts, List.length_map, hn.out]
      have hI1 := hI.out.1
      rw [ht] at hI1
      have HSO := hide (hL w.heap.size (.slice ga m gc) (rts bs) wr (by rw [hl]; exact hI1) HND.out (by rw [hl, ← hn.out]; exact hbl))
      have HEND : Hid (∀ w5, SortedAt wr w.heap.size (.slice ga m gc) (rts bs).length (rts bs) (.returned (.tuple #[])) w5 → RootsOf w bs (.returned (.slice ga m gc)) w5) := fun w5 h5 => by
        obtain ⟨_, s1, s2⟩ := h5
        have T5 : Turn (fun k => (Value.slice ga m gc).ownBlock = some k) wr w5 := .grown s2
        refine ⟨_, rfl, ?_, hI.out.2.trans (T5.below hI.out.2.size (fun i hi => (hI1.lt i hi).1))⟩
        rw [hl] at s1
        rw [hn.out]
        exact s1
      clear hI hI1 HND
      go_wp2_with (go_at_call 19; refine HSO.out.mono ?_; rintro e w5 h5; obtain rfl := h5.1)
      refine bodyPost_ret (v := .slice ga m gc) (by simp [results, Tryd.results23, go_sem]) rfl (HEND.out _ h5)
end Go.Proofs.YtphahkjjmomjcaaDoor

/- Contract of psephoslaw12's Made. -/
import Derived.Test.YtfkabmgbcdoijaaNdTree

namespace Go.Proofs.Ytfkabmgbcdoijaa

open Go.ChangeShapes Go.WideShapes Go.ChangeAt Go.RowKit

set_option linter.unusedVariables false

/-- of i + 1 blocks, whose roots are numbered -/
structure Numb (bs : List TBlk) (i : Nat) : Prop where
  ok : TOk bs
  len : bs.length = i + 1
  root : ∀ j, j < i + 1 → (tb bs j).root = (j : Int) + 1
  slot : ∀ j, j < i + 1 → 0 ≤ (tb bs j).slot ∧ (tb bs j).slot ≤ 4 * (i : Int)
theorem Numb.one : Numb (tOne 1 0) 0 := ⟨tOne_ok (by unfold U64; omega) (by unfold I64; omega), rfl, fun j hj => by
  have : j = 0 := by omega
  subst this; rfl, fun j hj => by
  have : j = 0 := by omega
  subst this; simp [tOne, tb]⟩
theorem Numb.idx {bs : List TBlk} {i j : Nat} (h : Numb bs i) (hj : j < i + 1) : idx bs ((j : Int) + 1) = some j := by
  have := idx_of h.ok (i := j) (by rw [h.len]; exact hj)
  rwa [h.root j hj] at this
theorem Numb.new {bs : List TBlk} {i : Nat} (h : Numb bs i) {x : Int} (hx : ¬ (1 ≤ x ∧ x ≤ (i : Int) + 1)) : Go.Proofs.Ytfkabmgbcdoijaa.idx bs x = none := by
  cases hy : Go.Proofs.Ytfkabmgbcdoijaa.idx bs x with
  | none => rfl
  | some j =>
    obtain ⟨h1, h2⟩ := idx_some hy
    rw [h.len] at h1
    rw [h.root j h1] at h2
    omega
theorem Numb.has {bs : List TBlk} {i : Nat} (h : Numb bs i) {x : Int} (hx : 1 ≤ x ∧ x ≤ (i : Int) + 1) : Go.Proofs.Ytfkabmgbcdoijaa.idx bs x = some (x - 1).toNat := by
  have := h.idx (j := (x - 1).toNat) (by omega)
  rwa [show (((x - 1).toNat : Nat) : Int) + 1 = x by omega] at this
theorem Numb.next {bs bs' : List TBlk} {ms : List Nod} {i q : Nat} {d : Int} (h : Numb bs i) (hM : MOf bs ms) (hi : i < 30) (hq : q < i + 1) (hd : 1 ≤ d ∧ d ≤ 4) (hn : Next bs ((i : Int) + 2) (tb bs q).root ((tb bs q).slot + d) bs') :
    addE bs ((i : Int) + 2) (tb bs q).root ((tb bs q).slot + d) = 0 ∧ Numb bs' (i + 1) ∧ MOf bs' (ms ++ [⟨(i : Int) + 2, (tb bs q).root, (tb bs q).slot + d⟩]) := by
  have e1 := h.new (x := (i : Int) + 2) (by omega)
  have e2 := idx_of h.ok (i := q) (by rw [h.len]; exact hq)
  have hsl := h.slot q hq
  have hE : addE bs ((i : Int) + 2) (tb bs q).root ((tb bs q).slot + d) = 0 := by
    unfold addE
    rw [e1, e2]
    simp only
    rw [if_neg (by omega), if_neg (by rw [h.len]; omega)]
  refine ⟨hE, ?_⟩
  have hok := hn.ok h.ok (by unfold U64; omega) (by unfold I64; omega)
  rcases hn with ⟨h0, _⟩ | ⟨_, o, k, h1, h2, h3, h4, h5, h6, rfl⟩
  · exact absurd hE h0
  · rw [e2] at h1
    obtain rfl := Option.some.inj h1
    refine ⟨⟨hok, by rw [layB_len, h.len], fun j hj => ?_, fun j hj => ?_⟩, hM.lay h.ok e2⟩
    · by_cases hj' : j < i + 1
      · rw [(root_lay bs _ q _ k j (by rw [h.len]; exact hj')).1]; exact h.root j hj'
      · rw [tb_lay, if_neg (by rw [h.len]; omega), if_pos (by rw [h.len]; omega)]
        show (i : Int) + 2 = _
        omega
    · by_cases hj' : j < i + 1
      · rw [(root_lay bs _ q _ k j (by rw [h.len]; exact hj')).2.2.1]
        have := h.slot j hj'
        omega
      · rw [tb_lay, if_neg (by rw [h.len]; omega), if_pos (by rw [h.len]; omega)]
        show 0 ≤ (tb bs q).slot + d ∧ (tb bs q).slot + d ≤ _
        omega
/-- what Made hands back -/
def MadeTM (w : World) (e : Ending) (w' : World) : Prop := ∃ p sv bs ms i, e = .returned (.tuple #[.pointer (some ⟨p, 0, none⟩), sv]) ∧ MdAt w.heap.size (fun _ => False) p bs sv ms w' ∧ Numb bs i ∧ i ≤ 30 ∧ MOf bs ms ∧ Below w.heap.size w w'
/-- the same; the first one is its own parent -/
def MadeTM1 (w : World) (e : Ending) (w' : World) : Prop := ∃ p sv bs ms i, e = .returned (.tuple #[.pointer (some ⟨p, 0, none⟩), sv]) ∧ MdAt w.heap.size (fun _ => False) p bs sv ms w' ∧ Numb bs i ∧ i ≤ 30 ∧ MOf bs ms ∧ Below w.heap.size w w' ∧ (nd ms 0).par = 1
/-- on the way -/
def MadeI (w : World) (p : Nat) (sv : Value) (i : Nat) (wr : World) : Prop := ∃ bs ms, MdAt w.heap.size (fun _ => False) p bs sv ms wr ∧ Numb bs i ∧ MOf bs ms ∧ Below w.heap.size w wr ∧ (nd ms 0).par = 1
theorem infoN : (Try.prog.info? 39).map (fun i => (i.zero, i.size, i.bytes)) = some (some (.agg #[.int .u64 0, .int .u64 0, .int .i64 0]), 3, 24) := by kernel_rfl

set_option maxRecDepth 100000 in
set_option maxHeartbeats 2000000 in
theorem made1_any (ns : List Int) (a : Option Addr) (l c : Nat) (w : World) (hN : RowIn .u8 w a l c ns) (hu : ∀ z ∈ ns, 0 ≤ z ∧ z ≤ 255) :
    Calls Try.prog 10 #[.slice a l c] w (MadeTM1 w) := by
  have hnl := hide hN.len
  have hlm : l ≤ 9223372036854775807 := by have := hN.cap; unfold maxLen at this; omega
  have HN := hide hN
  have HU := hide hu
  clear hN hu
  obtain ⟨i0, hi0, hz0, hz1, hz2⟩ := info_parts infoN
  have I0 := hide hi0
  have I1 := hide hz0
  have I2 := hide hz1
  have I3 := hide hz2
  clear hi0 hz0 hz1 hz2
  have HOF := hide (of_any 1 0 w (by unfold U64; omega))
  go_enter Try.func10, Try.ntmps10
  go_wp2_with fail
  refine HOF.out.mono ?_
  rintro e w1 ⟨p, rfl, hT, hb⟩
  have HM := hide (MdAt.one (x := ⟨1, 1, 0⟩) hT hb)
  have HB := hide (hb.alloc hb.size (.cells (nC ⟨1, 1, 0⟩).toArray 39))
  clear HOF hT hb
  go_wp2
  go_loopw [5, 15] (fun m v wr => ∃ (i : Nat) (ao : Option Addr) (d : Nat), v = .int .i64 (i : Int) ∧ m = .slice ao (i + 1) d ∧ i ≤ l ∧ i ≤ 30 ∧ Hid (MadeI w p m i wr)) (fun _ v _ => l - (intOf v).toNat)
  case atStart => exact ⟨0, some ⟨w1.heap.size, 0, none⟩, 1, rfl, rfl, Nat.zero_le _, Nat.zero_le _, hide ⟨_, _, HM.out, Numb.one, ⟨rfl, fun i hi => (by
    have : i = 0 := by simp [tOne] at hi; exact hi
    subst this; rfl), fun i hi => (by
    have : i = 0 := by simp [tOne] at hi; exact hi
    subst this; rfl), fun i h0 hi => (by simp [tOne] at hi; omega)⟩, HB.out, rfl⟩⟩
  case round =>
    clear HM HB
    obtain ⟨i, ao, d, rfl, rfl, hil, hi30, hI⟩ := hrel
    obtain ⟨L, hL⟩ : ∃ L, Hid (i + 1 = L) := ⟨_, rfl⟩
    rw [hL.out] at hI ⊢
    have hdone : Hid (MadeTM1 w (.returned (.tuple #[.pointer (some ⟨p, 0, none⟩), .slice ao L d])) wr) := by
      obtain ⟨bs, ms, h1, h2, h3, h4, h5⟩ := hI.out
      exact ⟨p, _, bs, ms, i, rfl, h1, h2, hi30, h3, h4, h5⟩
    by_cases hlt : i < l
    · obtain ⟨bs, ms, h1, h2, h3, h4, h5⟩ := hI.out
      have HP1 := hide (show 0 < ms.length ∧ (nd ms 0).par = 1 from ⟨by rw [h3.len, h2.len]; omega, h5⟩)
      have HM := hide h1
      have HO := hide h2
      have HX := hide h3
      have HB := hide h4
      clear hI h1 h2 h3 h4 h5
      obtain ⟨g, off, rfl, hgs, hcn⟩ := (HN.out.below HB.out).cell i hlt
      have hub := HU.out (ns.getD i 0) (by
        have := hnl.out
        rw [List.getD_eq_getElem?_getD, List.getElem?_eq_getElem (by omega)]; exact List.getElem_mem _)
      generalize ns.getD i 0 = n at hcn hub
      have hil1 : (i : Int) < (l : Int) := by omega
      by_cases h30 : i = 30
      · subst h30
        go_wp2
        go_ret2
        exact hdone.out
      · have hi3 : i < 30 := by omega
        have h30' : ((i : Int) == 30) = false := by simp only [beq_eq_false_iff_ne, ne_eq]; omega
        clear h30 hdone
        have hq0 : Hid (0 ≤ n % (L : Int) ∧ n % (L : Int) < (L : Int)) := hide ⟨Int.emod_nonneg _ (by have := hL.out; omega), Int.emod_lt_of_pos _ (by have := hL.out; omega)⟩
        obtain ⟨q, hq⟩ : ∃ q : Nat, n % (L : Int) = (q : Int) := ⟨(n % (L : Int)).toNat, by have := hq0.out; omega⟩
        have hqL : q < L := by have := hq0.out; omega
        have hqL1 : (q : Int) < (L : Int) := by omega
        have hq0' : (0 : Int) ≤ (q : Int) := by omega
        have hLz : ((L : Int) == 0) = false := by have := hL.out; simp only [beq_eq_false_iff_ne, ne_eq]; omega
        obtain ⟨aa, cc, e1, hrow⟩ := HM.out.row
        simp only [Value.slice.injEq] at e1
        obtain ⟨rfl, hmL, rfl⟩ := e1
        rw [← hmL] at hrow
        replace hmL := hide hmL
        obtain ⟨gm, om, rfl, hgm, hcm⟩ := hrow.2 (by omega)
        have h4 := hcm q hqL
        obtain ⟨x, hx⟩ : ∃ x, Hid (nd ms q = x) := ⟨_, rfl⟩
        rw [hx.out] at h4
        have LD := hide (node_load h4)
        have ST := hide (node_store wr x)
        have HN1 := hide (OAt.new wr (.cells #[.int .u64 x.root, .int .u64 x.par, .int .i64 x.slot] 39))
        replace HB := hide (HB.out.alloc HB.out.size (.cells #[.int .u64 x.root, .int .u64 x.par, .int .i64 x.slot] 39))
        replace HM := hide (HM.out.below (below_alloc wr (.cells #[.int .u64 x.root, .int .u64 x.par, .int .i64 x.slot] 39)))
        clear h4 hcm hgm hrow hq0
        go_upto_region 8 with (first
          | (refine wpList_load_at 39 (.tmp 28) rfl rfl (.pointer (some ⟨gm, om + q * 3, none⟩)) rfl (.agg _) LD.out ?_)
          | (refine wpList_store_at 39 (.tmp 8) (.tmp 29) rfl rfl (.pointer (some ⟨wr.heap.size, 0, none⟩)) (.agg _) rfl rfl _ ST.out ?_))
        clear LD ST
        go_frame
        generalize wr.alloc (.cells #[.int .u64 x.root, .int .u64 x.par, .int .i64 x.slot] 39) = wa at HN1 HM HB ⊢
        have q0 := HN1.out.cell 0
        have q2 := HN1.out.cell 2
        simp only [List.getElem?_toArray, List.getElem?_cons_zero, List.getElem?_cons_succ] at q0 q2
        generalize wr.heap.size = h at HN1 q0 q2 ⊢
        have hxr : Hid (x.root = (tb bs q).root) := hide (by rw [← hx.out]; exact HX.out.root q (by have := HO.out.len; have := hL.out; omega))
        have hxs : Hid (x.slot = (tb bs q).slot) := hide (by rw [← hx.out]; exact HX.out.slot q (by have := HO.out.len; have := hL.out; omega))
        have hsl : 0 ≤ x.slot ∧ x.slot ≤ 4 * (i : Int) := by rw [hxs.out]; exact HO.out.slot q (by have := hL.out; omega)
        obtain ⟨X0, X1, X2⟩ := x
        simp only at q0 q2 hxr hxs hsl
        go_upto_region 9 with fail
        clear q0 q2 HN1 hx hq hqL1 hq0' hLz hcn hgs hsl
        obtain ⟨s, hs⟩ : ∃ s, Hid (X2 + 1 + n / 64 = s) := ⟨_, rfl⟩
        obtain ⟨dd, hdd⟩ : ∃ dd, Hid (1 + n / 64 = dd ∧ 1 ≤ dd ∧ dd ≤ 4) := ⟨_, hide ⟨rfl, by omega, by omega⟩⟩
        have hsd : Hid (s = (tb bs q).slot + dd) := hide (by rw [← hs.out, ← hdd.out.1, ← hxs.out]; omega)
        rw [hs.out]
        have hsb : I64 s := by
          rw [hsd.out]
          have := HO.out.slot q (by have := hL.out; omega)
          have := hdd.out
          unfold I64
          omega
        have hX0 : U64 X0 := by rw [hxr.out]; exact HO.out.ok.root q (by have := HO.out.len; have := hL.out; omega)
        have HN1 := hide (OAt.new wa (.cells #[.int .u64 ((i : Int) + 2), .int .u64 X0, .int .i64 s] 39))
        have hwa : Hid (w.heap.size ≤ wa.heap.size) := hide HB.out.size
        replace HM := hide (HM.out.new (K' := fun k => k = wa.heap.size) (below_alloc wa (.cells #[.int .u64 ((i : Int) + 2), .int .u64 X0, .int .i64 s] 39)) (fun k hk => by subst hk; rw [World.size_alloc]; exact ⟨Nat.le_refl _, by omega⟩))
        replace HB := hide (HB.out.alloc HB.out.size (.cells #[.int .u64 ((i : Int) + 2), .int .u64 X0, .int .i64 s] 39))
        generalize wa.alloc (.cells #[.int .u64 ((i : Int) + 2), .int .u64 X0, .int .i64 s] 39) = wb at HN1 HM HB ⊢
        generalize wa.heap.size = hv at HN1 HM hwa ⊢
        have q0 := HN1.out.cell 0
        have q1 := HN1.out.cell 1
        have q2 := HN1.out.cell 2
        simp only [List.getElem?_toArray, List.getElem?_cons_zero, List.getElem?_cons_succ] at q0 q1 q2
        have hUr : U64 ((i : Int) + 2) := by unfold U64; omega
        have HAD := hide (md_add w.heap.size (fun k => k = hv) p bs _ ms ((i : Int) + 2) X0 s wb HB.out.size HM.out HO.out.ok hUr hX0 hsb)
        go_wp2_with fail
        refine HAD.out.mono ?_
        rintro e w3 ⟨rfl, bs', hnx, hM3, hB3, hK3⟩
        rw [hsd.out, hxr.out] at hnx
        obtain ⟨hE, hO3, hX3⟩ := HO.out.next HX.out (by omega) (by have := hL.out; omega) hdd.out.2 hnx
        rw [← hsd.out, ← hxr.out] at hE hX3
        rw [hE, show errV 0 = .nilIface from rfl]
        have HM3 := hide hM3
        have HO3 := hide hO3
        have HX3 := hide hX3
        have HB3 := hide (HB.out.trans hB3)
        have HV3 := hide (OAt.of ((hK3 hv rfl).trans HN1.out.at_))
        clear hnx hE hM3 hB3 hK3 hO3 hX3 HAD HM HO HX HB q0 q1 q2 HN1 hxr hxs hs hsd hdd hsb hX0 hUr hwa
        have LD := hide (node_load (w := w3) (b := hv) (o := 0) (x := ⟨(i : Int) + 2, X0, s⟩) (fun j hj => by rw [Nat.zero_add, HV3.out.cell, List.getElem?_toArray]; rfl))
        obtain ⟨F, hF1, hF2, hOW, hF4⟩ := HM3.out
        have HOW := hide (hOW.below (below_alloc w3 (.cells (nC ⟨(i : Int) + 2, X0, s⟩).toArray 39)) (fun _ _ h => h))
        clear hF1 hF2 hOW hF4
        have hR := hide (RowsIn.lit (R := nR) w3 w3.heap.size (nC ⟨(i : Int) + 2, X0, s⟩) 39 3 ⟨(i : Int) + 2, X0, s⟩ rfl rfl rfl)
        have hws := HB3.out.size
        have hms := hmL.out.symm
        replace hms := hide hms
        go_wp2_with (first
          | (refine wpList_load_at 39 (.tmp 9) rfl rfl (.pointer (some ⟨hv, 0, none⟩)) rfl (.agg _) LD.out ?_)
          | (at_builtin; refine wpList_append_structs (R := nR) _ rfl (.tmp 52) (.tmp 54) 26 rfl w.heap.size 39 i0 (.agg #[.int .u64 0, .int .u64 0, .int .i64 0]) 3 24 Try.underlying26 I0.out I1.out I2.out I3.out rfl (by omega) nR_one (.slice (some ⟨gm, om, none⟩) L d) L ms rfl HOW.out hms.out (some ⟨w3.heap.size, 0, none⟩) 1 1 [⟨(i : Int) + 2, X0, s⟩] rfl hR.out ?c1 ?c2 ?c3 ?_))
        case c1 => have := hL.out; unfold maxLen; omega
        case c2 => have := hL.out; omega
        case c3 => rw [World.size_alloc]; omega
        intro ao4 d4 w4 hown4 hgrow4
        have HM4 := hide ((HM3.out.free.below (below_alloc w3 (.cells (nC ⟨(i : Int) + 2, X0, s⟩).toArray 39))).push hown4 hgrow4)
        have HB4 := hide ((HB3.out.alloc hws (.cells (nC ⟨(i : Int) + 2, X0, s⟩).toArray 39)).grown hgrow4 (by rw [World.size_alloc]; omega) (fun j hj => (HOW.out.blk hj).1))
        clear hown4 hgrow4 HOW hR LD HM3 HB3 HV3
        go_wp2
        go_roundw
        case rel => exact ⟨i + 1, ao4, d4, by go_num, by rw [hL.out], by omega, by omega, hide ⟨bs', _, HM4.out, HO3.out, HX3.out, HB4.out, by rw [nd_snoc, if_pos HP1.out.1]; exact HP1.out.2⟩⟩
        case measure => simp [intOf]; omega
    · obtain rfl : i = l := by omega
      go_wp2
      go_ret2
      exact hdone.out
theorem made_any (ns : List Int) (a : Option Addr) (l c : Nat) (w : World) (hN : RowIn .u8 w a l c ns) (hu : ∀ z ∈ ns, 0 ≤ z ∧ z ≤ 255) :
    Calls Try.prog 10 #[.slice a l c] w (MadeTM w) := (made1_any ns a l c w hN hu).mono (fun e w' h => by
  obtain ⟨p, sv, bs, ms, i, h1, h2, h3, h4, h5, h6, _⟩ := h
  exact ⟨p, sv, bs, ms, i, h1, h2, h3, h4, h5, h6⟩)
end Go.Proofs.Ytfkabmgbcdoijaa

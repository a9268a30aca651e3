/- What is left of a model when its tree is cut: plain facts; Cut beside a model. -/
import Derived.Test.YtphahkjjmomjcaaDoorNdTree

import Derived.Test.YtphahkjjmomjcaaDoorNdKids

import Derived.Test.YtphahkjjmomjcaaDoorTTwo

namespace Go.Proofs.YtphahkjjmomjcaaDoor

open Go.ChangeShapes Go.WideShapes Go.ChangeAt Go.RowKit

set_option linter.unusedVariables false

/-- the places of those of the first m that stay, in the model's order -/
def FL (bs : List TBlk) (b m : Nat) : List Nat := (List.range m).filter (fun i => decide (climb bs b i = b))
theorem FL_in {bs : List TBlk} {b m : Nat} (h : climb bs b m = b) : FL bs b (m + 1) = FL bs b m ++ [m] := by simp [FL, List.range_succ, List.filter_append, h]
theorem FL_out {bs : List TBlk} {b m : Nat} (h : ¬ climb bs b m = b) : FL bs b (m + 1) = FL bs b m := by simp [FL, List.range_succ, List.filter_append, h]
theorem FL_SL (bs : List TBlk) (b : Nat) : ∀ m, (m ≤ b → FL bs b m = []) ∧ (b < m → FL bs b m = SL bs b m)
  | 0 => ⟨fun _ => rfl, fun h => by omega⟩
  | m + 1 => by
    obtain ⟨h1, h2⟩ := FL_SL bs b m
    refine ⟨fun h => ?_, fun h => ?_⟩
    · rw [FL_out (fun e => by have := stands_ge e; omega)]
      exact h1 (by omega)
    · by_cases hm : m = b
      · subst hm
        rw [FL_in (stands_self bs m), h1 (Nat.le_refl _), SL_self, SL]
        rw [show (List.range m).filter (fun i => decide (i ≠ m ∧ climb bs m i = m)) = [] from ?_]
        · rfl
        · rw [List.filter_eq_nil_iff]
          intro i hi
          have := List.mem_range.1 hi
          simp only [decide_eq_true_eq, not_and]
          intro _ e
          have := stands_ge e
          omega
      · have hbm : b < m := by omega
        by_cases hc : climb bs b m = b
        · rw [FL_in hc, SL_in hc hm, h2 hbm]
        · rw [FL_out hc, SL_out hc, h2 hbm]
def stayL (bs : List TBlk) (ms : List Nod) (b m : Nat) : List Nod := (FL bs b m).map (nd ms)
theorem getD_at' {S : List Nat} {q : Nat} (h : q < S.length) : S.getD q 0 = S[q] := by rw [List.getD_eq_getElem?_getD, List.getElem?_eq_getElem h]; rfl
theorem nd_map (ms : List Nod) (S : List Nat) (q : Nat) (h : q < S.length) : nd (S.map (nd ms)) q = nd ms (S.getD q 0) := by
  unfold nd
  rw [List.getD_eq_getElem?_getD, List.getElem?_map, List.getD_eq_getElem?_getD (l := S), List.getElem?_eq_getElem h]
  rfl
theorem stay_of {bs : List TBlk} {ms : List Nod} {b : Nat} {ts : List TBlk} (hM : MOf bs ms) (hO : TOk bs) (hb : b < bs.length) (hC : CutOf bs (SL bs b bs.length) ts) : MOf ts (stayL bs ms b bs.length) := by
  unfold stayL
  rw [(FL_SL bs b bs.length).2 hb]
  have hS : ∀ q, q < (SL bs b bs.length).length → (SL bs b bs.length).getD q 0 < bs.length := fun q hq => by
    rcases mem_SL.1 (getD_mem hq) with e | e
    · rw [e]; exact hb
    · exact e.1
  refine ⟨by rw [List.length_map, hC.len], fun q hq => ?_, fun q hq => ?_, fun q h0 hq => ?_⟩
  all_goals rw [hC.len] at hq
  · rw [nd_map _ _ _ hq, hC.root q hq, hM.root _ (hS q hq)]
  · rw [nd_map _ _ _ hq, hC.slot q hq, hM.slot _ (hS q hq)]
  · obtain ⟨h1, h2⟩ := hC.par q h0 hq
    rw [nd_map _ _ _ hq, hC.root _ h1, h2]
    refine hM.par _ ?_ (hS q hq)
    have hne : (SL bs b bs.length).getD q 0 ≠ b := by
      intro e
      have hnd := SL_nodup bs b bs.length
      have h00 : (SL bs b bs.length).getD 0 0 = b := rfl
      rw [getD_at' hq] at e
      rw [getD_at' (show 0 < (SL bs b bs.length).length by omega)] at h00
      exact List.pairwise_iff_getElem.1 hnd 0 q (by omega) hq h0 (by rw [h00, e])
    rcases mem_SL.1 (getD_mem hq) with e | e
    · exact absurd e hne
    · have := stands_ge e.2.2
      omega
/-- who is gone: in the model, not in what stays; rising; so many -/
theorem gone_of {bs : List TBlk} {b : Nat} {ts : List TBlk} (hO : TOk bs) (hb : b < bs.length) (hC : CutOf bs (SL bs b bs.length) ts) {k : Nat} (hk : k < (GL bs b bs.length).length) :
    ∃ x, (rise (GL bs b bs.length)).getD k 0 = x ∧ U64 x ∧ idx ts x = none ∧ (∃ j, idx bs x = some j) ∧ ∀ j, j < k → (rise (GL bs b bs.length)).getD j 0 < x := by
  have hk' : k < (rise (GL bs b bs.length)).length := by rw [rise_len]; exact hk
  have hm : (rise (GL bs b bs.length)).getD k 0 ∈ GL bs b bs.length := by
    rw [← (rise_perm _).mem_iff, getD_at hk']
    exact List.getElem_mem _
  obtain ⟨h1, h2⟩ := hC.gone hO hb hm
  refine ⟨_, rfl, h2, h1, ?_, fun j hj => ?_⟩
  · generalize (rise (GL bs b bs.length)).getD k 0 = x at hm ⊢
    unfold GL at hm
    obtain ⟨i, hi, e⟩ := List.mem_map.1 hm
    have hil := List.mem_range.1 (List.mem_filter.1 hi).1
    exact ⟨i, by rw [← e]; exact idx_of hO hil⟩
  · have h1 := rise_le (GL bs b bs.length)
    have h2 : (rise (GL bs b bs.length)).Nodup := (rise_perm _).nodup_iff.2 (GL_nodup hO b _ (Nat.le_refl _))
    have h3 := (List.Pairwise.and h1 h2).imp (S := fun a c => a < c) (fun {a c} hab => by have := hab.1; have := hab.2; omega)
    rw [getD_at (by omega), getD_at hk']
    exact List.pairwise_iff_getElem.1 h3 j k (by omega) hk' hj
theorem gone_len {bs : List TBlk} {b : Nat} (hb : b < bs.length) : (FL bs b bs.length).length + (GL bs b bs.length).length = bs.length := by
  rw [(FL_SL bs b bs.length).2 hb]
  exact SL_GL_len bs b _ hb
theorem cut_small {bs : List TBlk} {b : Nat} {ts : List TBlk} (h : Small bs) (hb : b < bs.length) (hT : TOk ts) (hC : CutOf bs (SL bs b bs.length) ts) : Small ts := by
  have hS : ∀ q, q < (SL bs b bs.length).length → (SL bs b bs.length).getD q 0 < bs.length := fun q hq => by
    rcases mem_SL.1 (getD_mem hq) with e | e
    · rw [e]; exact hb
    · exact e.1
  refine ⟨hT, fun i hi => ?_, fun i hi => ?_⟩
  all_goals rw [hC.len] at hi
  · rw [hC.root i hi]; exact h.root _ (hS i hi)
  · rw [hC.slot i hi]; exact h.slot _ (hS i hi)
/-- Cut, beside a model -/
theorem md_cut (B p : Nat) (bs : List TBlk) (sv : Value) (ms : List Nod) (r : Int) (b : Nat) (w : World) (hB : B ≤ w.heap.size) (hT : MdAt B (fun _ => False) p bs sv ms w) (hO : TOk bs) (hr : U64 r) (hx : idx bs r = some b) (hl : bs.length ≤ 50) :
    Calls Tryd.prog 6 #[.pointer (some ⟨p, 0, none⟩), .int .u64 r] w fun e w' => ∃ gv ts, e = .returned gv ∧ w'.ownsRow w.heap.size 26 1 gv (GL bs b bs.length).length ((rise (GL bs b bs.length)).map (Value.int .u64)) ∧ TOk ts ∧ CutOf bs (SL bs b bs.length) ts ∧ MdAt B (fun _ => False) p ts sv ms w' ∧ Below B w w' := by
  obtain ⟨F, h1, h2, h3, h4⟩ := hT
  refine (cut_any 49 sorts49 F p bs r b w h1 hO hr hx hl).mono ?_
  rintro e w' ⟨gv, rfl, hown, F', ts, k1, k2, k3, k4, k5, k6⟩
  have hsz := k4.size
  refine ⟨gv, ts, rfl, hown, k2, k3, ⟨_, k1.tight, fun i hi => ⟨?_, hi.2, fun e => e, fun e => ?_⟩, ?_, fun i hi => hi.elim⟩, k4.below hB (fun i hi => (h2 i hi).1)⟩
  · rcases k5 i hi.1 with h | h
    · exact (h2 i h).1
    · omega
  · rcases k5 i hi.1 with h | h
    · exact (h2 i h).2.2.2 e
    · have := (h3.blk e).2.1; omega
  · obtain ⟨css, hc, ho⟩ := h3
    exact ⟨css, hc, owns_turn ho k4 (fun g hg hf => (h2 g hf).2.2.2 hg)⟩
/-- another row in the model's place, laid since Wc -/
theorem MdAt.change {B : Nat} {K : Nat → Prop} {p : Nat} {bs : List TBlk} {sv yv : Value} {ms ys : List Nod} {Wc w' : World} (h : MdAt B K p bs sv ms Wc) (hb : Below Wc.heap.size Wc w') (hB : B ≤ Wc.heap.size) (ho : OwnRows nR 28 3 Wc.heap.size w' yv ys) : MdAt B (fun _ => False) p bs yv ys w' := by
  obtain ⟨F, h1, h2, h3, h4⟩ := h
  have hs := hb.size
  refine ⟨F, h1.below hb, fun i hi => ⟨(h2 i hi).1, by have := (h2 i hi).2.1; omega, fun e => e, fun e => ?_⟩, ?_, fun i hi => hi.elim⟩
  · have := (ho.blk e).1
    have := (h2 i hi).2.1
    omega
  · obtain ⟨css, hc, hl, hh⟩ := ho
    refine ⟨css, hc, hl, ?_⟩
    rcases hh with hh | ⟨g, cap, cur, e, h5, h6⟩
    · exact .inl hh
    · exact .inr ⟨g, cap, cur, e, by omega, h6⟩
theorem MdAt.rowsIn {B : Nat} {K : Nat → Prop} {p : Nat} {bs : List TBlk} {a : Option Addr} {l c : Nat} {ms : List Nod} {w : World} (h : MdAt B K p bs (.slice a l c) ms w) : RowsIn nR 3 w a l c ms ∧ NRow w a l ms := by
  obtain ⟨F, h1, h2, h3, h4⟩ := h
  obtain ⟨a1, c1, e1, r1⟩ := h3.rows (by decide)
  obtain ⟨a2, c2, e2, r2⟩ := NRow.of h3
  simp only [Value.slice.injEq] at e1 e2
  obtain ⟨rfl, el, rfl⟩ := e1
  obtain ⟨rfl, _, rfl⟩ := e2
  rw [el]
  exact ⟨r1, r2⟩
theorem addM_cases (bs : List TBlk) (r q s : Int) : addM bs r q s = 0 ∨ addM bs r q s = 5 ∨ addM bs r q s = 6 ∨ addM bs r q s = 7 := by
  unfold addM
  cases idx bs r with
  | some i => exact .inr (.inr (.inl rfl))
  | none =>
    cases idx bs q with
    | none => exact .inr (.inl rfl)
    | some o =>
      simp only
      split
      · exact .inr (.inr (.inr rfl))
      · exact .inl rfl
theorem Next.mof {bs bs' : List TBlk} {ms : List Nod} {r q s : Int} (h : Next bs r q s bs') (hM : MOf bs ms) (hO : TOk bs) (h0 : addE bs r q s = 0) : MOf bs' (ms ++ [⟨r, q, s⟩]) := by
  rcases h with ⟨h1, _⟩ | ⟨_, o, k, h1, h2, h3, h4, h5, h6, rfl⟩
  · exact absurd h0 h1
  · exact hM.lay hO h1
theorem Next.same {bs bs' : List TBlk} {r q s : Int} (h : Next bs r q s bs') (h0 : addE bs r q s ≠ 0) : bs' = bs := by
  rcases h with ⟨_, e⟩ | ⟨h1, _⟩
  · exact e
  · exact absurd h1 h0
theorem below_at {bs : List TBlk} {r : Int} {b k : Nat} (hO : TOk bs) (hk : k < bs.length) (hx : idx bs r = some b) : belowB bs (tb bs k).root r = decide (climb bs b k = b) := by
  unfold belowB
  rw [idx_of hO hk, hx]
theorem infoNd : (Tryd.prog.info? 28).map (fun i => (i.zero, i.size, i.bytes)) = some (some (.agg #[.int .u64 0, .int .u64 0, .int .i64 0]), 3, 24) := by kernel_rfl
theorem mof_one (r q s : Int) : MOf (tOne r s) [⟨r, q, s⟩] := ⟨rfl, fun i hi => by
  have : i = 0 := by simp [tOne] at hi; exact hi
  subst this; rfl, fun i hi => by
  have : i = 0 := by simp [tOne] at hi; exact hi
  subst this; rfl, fun i h0 hi => by simp [tOne] at hi; omega⟩
end Go.Proofs.YtphahkjjmomjcaaDoor

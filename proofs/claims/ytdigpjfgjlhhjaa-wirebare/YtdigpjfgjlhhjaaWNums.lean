/- Contract of psephoslaw04's numbers: an event's numbers, of one that has bytes. -/
import Derived.Test.YtdigpjfgjlhhjaaWMay

import Derived.Deep.RegionHeld3

namespace Go.Proofs.Ytdigpjfgjlhhjaa

open Go.ChangeShapes Go.WideShapes Go.ChangeAt Go.RowKit

set_option linter.unusedVariables false

def pfNs (p : Pf) : List Int := voteNs p.a ++ voteNs p.b
def bkNs (b : Bk) : List Int := [b.root, b.parent, u64 b.slot, (b.votes.length : Int), (b.proofs.length : Int)] ++ b.votes.flatMap voteNs ++ b.proofs.flatMap pfNs
/-- an event's numbers -/
def evNs (e : Ev) : List Int := u64 e.kind :: (if e.kind = 0 then [u64 e.slot] else if e.kind = 2 then voteNs e.vote else if e.kind = 3 then pfNs e.proof else bkNs e.block)

theorem OwnsU.form {w : World} {base : Nat} {r : Value} {ns : List Int} (h : OwnsU w base r ns) : ∃ ao d, r = .slice ao ns.length d ∧ RowIn .u64 w ao ns.length d ns := RowIn.ofOwned h
theorem OwnsU.of {w : World} {base base' n : Nat} {r : Value} {xs : List Value} {ns : List Int} (h : w.ownsRow base' 25 1 r n xs) (hn : ns.length = n) (hx : xs = ns.map (Value.int .u64)) (hb : base ≤ base') : OwnsU w base r ns := by
  subst hn hx
  exact World.ownsRow.mono h hb
theorem OwnsU.below {w w' : World} {base : Nat} {r : Value} {ns : List Int} (h : OwnsU w base r ns) (hb : Below w.heap.size w w') : OwnsU w' base r ns := owns_below h hb

theorem owns_lit (w : World) (C : Array Value) (ns : List Int) (base h n : Nat) (hC : C = (ns.map (Value.int .u64)).toArray) (hh : w.heap.size = h) (hn : ns.length = n) (hb : base ≤ h) (hm : n ≤ maxLen) :
    (w.alloc (.cells C 25)).ownsRow base 25 1 (.slice (some ⟨h, 0, none⟩) n n) n (ns.map (Value.int .u64)) := by
  subst hh hC
  have := World.ownsRow_lit (base := base) (e := 25) (size := 1) w (ns.map (Value.int .u64)).toArray n hb hm (by simp [hn])
  simpa using this

/-- a vote's numbers, as a row to be read -/
theorem lvote_row (v : Vt) (cs : List Value) (w : World) (h : VoteC w cs v) (hl : v.who.length ≤ 4096) :
    Calls Try.prog 19 #[.agg cs.toArray] w fun e w' => ∃ ao n d, e = .returned (.slice ao n d) ∧ Hid ((voteNs v).length = n) ∧ n ≤ 4103 ∧ RowIn .u64 w' ao n d (voteNs v) ∧ Below w.heap.size w w' := by
  refine (lvote_any v cs w h hl).mono ?_
  rintro e w' ⟨r, rfl, hr, hb⟩
  obtain ⟨ao, d, rfl, hrow⟩ := hr.form
  exact ⟨ao, _, d, rfl, hide rfl, by rw [voteNs_len]; omega, hrow, hb⟩

set_option maxHeartbeats 1000000 in
theorem lnum_tick (es : Int) (bk : Bk) (vt : Vt) (pf : Pf) (w : World) (a1 : Option Addr) (l1 c1 : Nat) (a2 : Option Addr) (l2 c2 : Nat) (a3 : Option Addr) (l3 c3 : Nat) (a4 : Option Addr) (l4 c4 : Nat) (a5 : Option Addr) (l5 c5 : Nat) :
    Calls Try.prog 11 #[.agg (evCs 0 es bk vt pf a1 l1 c1 a2 l2 c2 a3 l3 c3 a4 l4 c4 a5 l5 c5)] w fun e w' => ∃ r, e = .returned r ∧ OwnsU w' w.heap.size r [0, u64 es] ∧ Below w.heap.size w w' := by
  obtain ⟨i0, hi, hz0, hz1, hz2⟩ := info_parts infoU64
  have u0 : IntKind.u64.wrap 0 = 0 := by rw [IntKind.wrap_u64]; rfl
  have hown := owns_lit (w.alloc (.cells (evCs 0 es bk vt pf a1 l1 c1 a2 l2 c2 a3 l3 c3 a4 l4 c4 a5 l5 c5) 38)) #[.int .u64 0] [0] w.heap.size (w.heap.size + 1) 1 rfl (by simp) rfl (by omega) (by simp [maxLen])
  have HO := hide hown
  clear hown
  go_enter Try.func11, Try.ntmps11
  go_wp2_with (at_builtin; refine wpList_append_rows _ rfl (.tmp 17) (.tmp 21) 48 rfl w.heap.size 25 i0 .u64 (.int .u64 0) 8 Try.underlying48 hi hz0 hz1 hz2 rfl (.slice (some ⟨w.heap.size + 1, 0, none⟩) 1 1) 1 [0] rfl (HO.out.alloc _) (some ⟨w.heap.size + 1 + 1, 0, none⟩) 1 1 [_] rfl (RowIn.lit .u64 _ _ _ _ _ _ _ [_] (by simp) rfl rfl (by simp [maxLen])) ?c1 ?c2 ?c3 ?_)
  case c1 => simp [maxLen]
  case c2 => omega
  case c3 => simp; omega
  intro ao4 d4 w4 hown4 hgrow4
  have hb4 : Hid (Below w.heap.size w w4) := ((((Below.refl _ _).alloc (Nat.le_refl _) _).alloc (by simp) _).alloc (by simp; omega) _).grown hgrow4 (by simp; omega) (fun j hj => by simp [Value.ownBlock] at hj; omega)
  have H4 := hide hown4
  clear hown4 hgrow4 HO
  go_wp2
  go_ret
  refine ⟨_, rfl, ?_, hb4.out⟩
  have := H4.out
  simp only [u64_eq] at this
  exact this

set_option maxHeartbeats 1000000 in
theorem lnum_attest (es : Int) (bk : Bk) (vt : Vt) (pf : Pf) (w : World) (a1 : Option Addr) (l1 c1 : Nat) (a2 : Option Addr) (l2 c2 : Nat) (a3 : Option Addr) (l3 c3 : Nat) (a4 : Option Addr) (l4 c4 : Nat) (a5 : Option Addr) (l5 c5 : Nat) (HVT : VoteC w (vtCs vt a3 l3 c3) vt) (hl : vt.who.length ≤ 4096) :
    Calls Try.prog 11 #[.agg (evCs 2 es bk vt pf a1 l1 c1 a2 l2 c2 a3 l3 c3 a4 l4 c4 a5 l5 c5)] w fun e w' => ∃ r, e = .returned r ∧ OwnsU w' w.heap.size r (2 :: voteNs vt) ∧ Below w.heap.size w w' := by
  obtain ⟨i0, hi, hz0, hz1, hz2⟩ := info_parts infoU64
  have u2 : IntKind.u64.wrap 2 = 2 := by rw [IntKind.wrap_u64]; rfl
  have hown := owns_lit (w.alloc (.cells (evCs 2 es bk vt pf a1 l1 c1 a2 l2 c2 a3 l3 c3 a4 l4 c4 a5 l5 c5) 38)) #[.int .u64 2] [2] w.heap.size (w.heap.size + 1) 1 rfl (by simp) rfl (by omega) (by simp [maxLen])
  have hbw : Below w.heap.size w ((w.alloc (.cells (evCs 2 es bk vt pf a1 l1 c1 a2 l2 c2 a3 l3 c3 a4 l4 c4 a5 l5 c5) 38)).alloc (.cells #[.int .u64 2] 25)) := ((Below.refl _ _).alloc (Nat.le_refl _) _).alloc (by simp) _
  have HO := hide hown
  have HBW := hide hbw
  have H := hide (HVT.below hbw)
  clear hown hbw HVT
  go_enter Try.func11, Try.ntmps11
  go_wp2_with fail
  refine (lvote_row vt _ _ H.out hl).mono ?_
  rintro e w1 ⟨ao, n, d, rfl, hn, hnb, hrow, hb1⟩
  have HO1 := hide (owns_below HO.out hb1)
  have HB1 := hide (HBW.out.trans (hb1.mono (by simp; omega)))
  have HR := hide hrow
  have hs1 := HB1.out.size
  clear hb1 hrow HO
  go_wp2_with (at_builtin; refine wpList_append_rows _ rfl (.tmp 25) (.tmp 28) 48 rfl w.heap.size 25 i0 .u64 (.int .u64 0) 8 Try.underlying48 hi hz0 hz1 hz2 rfl (.slice (some ⟨w.heap.size + 1, 0, none⟩) 1 1) 1 [2] rfl HO1.out ao n d (voteNs vt) rfl HR.out ?c1 ?c2 ?c3 ?_)
  case c1 => unfold maxLen; omega
  case c2 => omega
  case c3 => exact hs1
  intro ao4 d4 w4 hown4 hgrow4
  have hb4 : Hid (Below w.heap.size w w4) := HB1.out.grown hgrow4 HB1.out.size (fun j hj => (HO1.out.lt j hj).1)
  have H4 := hide hown4
  clear hown4 hgrow4
  go_wp2
  go_ret
  refine ⟨_, rfl, ?_, hb4.out⟩
  exact OwnsU.of H4.out (by rw [List.length_cons, hn.out]; omega) (by simp) (Nat.le_refl _)

set_option maxHeartbeats 1000000 in
theorem lnum_slash (es : Int) (bk : Bk) (vt : Vt) (pf : Pf) (w : World) (a1 : Option Addr) (l1 c1 : Nat) (a2 : Option Addr) (l2 c2 : Nat) (a3 : Option Addr) (l3 c3 : Nat) (a4 : Option Addr) (l4 c4 : Nat) (a5 : Option Addr) (l5 c5 : Nat) (HA : VoteC w (vtCs pf.a a4 l4 c4) pf.a) (HB : VoteC w (vtCs pf.b a5 l5 c5) pf.b) (hla : pf.a.who.length ≤ 4096) (hlb : pf.b.who.length ≤ 4096) :
    Calls Try.prog 11 #[.agg (evCs 3 es bk vt pf a1 l1 c1 a2 l2 c2 a3 l3 c3 a4 l4 c4 a5 l5 c5)] w fun e w' => ∃ r, e = .returned r ∧ OwnsU w' w.heap.size r (3 :: (voteNs pf.a ++ voteNs pf.b)) ∧ Below w.heap.size w w' := by
  obtain ⟨i0, hi, hz0, hz1, hz2⟩ := info_parts infoU64
  have u3 : IntKind.u64.wrap 3 = 3 := by rw [IntKind.wrap_u64]; rfl
  obtain ⟨W0, hW0⟩ : ∃ W, Hid ((w.alloc (.cells (evCs 3 es bk vt pf a1 l1 c1 a2 l2 c2 a3 l3 c3 a4 l4 c4 a5 l5 c5) 38)).alloc (.cells #[.int .u64 3] 25) = W) := ⟨_, rfl⟩
  have hown : W0.ownsRow (w.heap.size + 1) 25 1 (.slice (some ⟨w.heap.size + 1, 0, none⟩) 1 1) 1 ([3].map (Value.int .u64)) := by
    rw [← hW0.out]
    exact owns_lit (w.alloc (.cells (evCs 3 es bk vt pf a1 l1 c1 a2 l2 c2 a3 l3 c3 a4 l4 c4 a5 l5 c5) 38)) #[.int .u64 3] [3] (w.heap.size + 1) (w.heap.size + 1) 1 rfl (by simp) rfl (by omega) (by simp [maxLen])
  have hbw : Below w.heap.size w W0 := by rw [← hW0.out]; exact ((Below.refl _ _).alloc (Nat.le_refl _) _).alloc (by simp) _
  have hs0 : w.heap.size < W0.heap.size := by rw [← hW0.out]; simp; omega
  have hc : ∀ i, i < 28 → W0.cell? ⟨w.heap.size, i, none⟩ = (evCs 3 es bk vt pf a1 l1 c1 a2 l2 c2 a3 l3 c3 a4 l4 c4 a5 l5 c5)[i]? := by
    intro i hi
    rw [← hW0.out, (below_alloc (w.alloc (.cells (evCs 3 es bk vt pf a1 l1 c1 a2 l2 c2 a3 l3 c3 a4 l4 c4 a5 l5 c5) 38)) _).cell (p := ⟨w.heap.size, i, none⟩) (by simp)]
    exact cell_of_row _ w.heap.size i _ _ _ (heap_alloc_new w _)
  have hcs : Hid (∀ w', Below (w.heap.size + 1) W0 w' → w'.cell? ⟨w.heap.size, 14, none⟩ = some (.int .i64 pf.a.slot) ∧ w'.cell? ⟨w.heap.size, 15, none⟩ = some (.int .u64 pf.a.head) ∧ w'.cell? ⟨w.heap.size, 16, none⟩ = some (.int .i64 pf.a.sE) ∧
      w'.cell? ⟨w.heap.size, 17, none⟩ = some (.int .u64 pf.a.sR) ∧ w'.cell? ⟨w.heap.size, 18, none⟩ = some (.int .i64 pf.a.tE) ∧ w'.cell? ⟨w.heap.size, 19, none⟩ = some (.int .u64 pf.a.tR) ∧ w'.cell? ⟨w.heap.size, 20, none⟩ = some (.slice a4 l4 c4) ∧
      w'.cell? ⟨w.heap.size, 21, none⟩ = some (.int .i64 pf.b.slot) ∧ w'.cell? ⟨w.heap.size, 22, none⟩ = some (.int .u64 pf.b.head) ∧ w'.cell? ⟨w.heap.size, 23, none⟩ = some (.int .i64 pf.b.sE) ∧
      w'.cell? ⟨w.heap.size, 24, none⟩ = some (.int .u64 pf.b.sR) ∧ w'.cell? ⟨w.heap.size, 25, none⟩ = some (.int .i64 pf.b.tE) ∧ w'.cell? ⟨w.heap.size, 26, none⟩ = some (.int .u64 pf.b.tR) ∧ w'.cell? ⟨w.heap.size, 27, none⟩ = some (.slice a5 l5 c5)) := fun w' h => by
    have hh : ∀ i, i < 28 → w'.cell? ⟨w.heap.size, i, none⟩ = _ := fun i hi => (h.cell (p := ⟨w.heap.size, i, none⟩) (Nat.lt_succ_self _)).trans (hc i hi)
    exact ⟨hh 14 (by omega), hh 15 (by omega), hh 16 (by omega), hh 17 (by omega), hh 18 (by omega), hh 19 (by omega), hh 20 (by omega), hh 21 (by omega), hh 22 (by omega), hh 23 (by omega), hh 24 (by omega), hh 25 (by omega), hh 26 (by omega), hh 27 (by omega)⟩
  have H0 := hide hown
  have HW := hide hbw
  have hWd : Hid (Below W0.heap.size W0 W0.drew) := (Below.refl _ _).drew
  have hs1 : w.heap.size + 1 ≤ W0.heap.size := hs0
  have KA := hide ((HA.below hbw).below hWd.out)
  have KB := hide HB
  have KS := hide (hcs.out W0 (Below.refl _ _))
  have hs0' := hs0
  clear hc hown hbw HA HB
  go_enter Try.func11, Try.ntmps11
  go_wp2
  rw [hW0.out]
  obtain ⟨q1, q2, q3, q4, q5, q6, q7, q8, q9, q10, q11, q12, q13, q14⟩ := KS.out
  go_region_held3 (fun w' => w'.cell? ⟨w.heap.size, 14, none⟩ = some (.int .i64 pf.a.slot) ∧ w'.cell? ⟨w.heap.size, 15, none⟩ = some (.int .u64 pf.a.head) ∧ w'.cell? ⟨w.heap.size, 16, none⟩ = some (.int .i64 pf.a.sE) ∧
      w'.cell? ⟨w.heap.size, 17, none⟩ = some (.int .u64 pf.a.sR) ∧ w'.cell? ⟨w.heap.size, 18, none⟩ = some (.int .i64 pf.a.tE) ∧ w'.cell? ⟨w.heap.size, 19, none⟩ = some (.int .u64 pf.a.tR) ∧ w'.cell? ⟨w.heap.size, 20, none⟩ = some (.slice a4 l4 c4) ∧
      w'.cell? ⟨w.heap.size, 21, none⟩ = some (.int .i64 pf.b.slot) ∧ w'.cell? ⟨w.heap.size, 22, none⟩ = some (.int .u64 pf.b.head) ∧ w'.cell? ⟨w.heap.size, 23, none⟩ = some (.int .i64 pf.b.sE) ∧
      w'.cell? ⟨w.heap.size, 24, none⟩ = some (.int .u64 pf.b.sR) ∧ w'.cell? ⟨w.heap.size, 25, none⟩ = some (.int .i64 pf.b.tE) ∧ w'.cell? ⟨w.heap.size, 26, none⟩ = some (.int .u64 pf.b.tR) ∧ w'.cell? ⟨w.heap.size, 27, none⟩ = some (.slice a5 l5 c5))
    (first
      | exact hcs.out _ hb4.out
      | exact hcs.out _ hb3.out
      | exact hcs.out _ hb2.out
      | exact hcs.out _ hb1.out
      | go_keep)
    (first
      | (refine step_append_rows rfl (.tmp 37) (.tmp 41) 48 rfl (w.heap.size + 1) 25 i0 .u64 (.int .u64 0) 8 Try.underlying48 hi hz0 hz1 hz2 rfl (.slice ao2 (1 + n1) d2) (1 + n1) ([3] ++ voteNs pf.a) rfl HO3.out ao3 n3 d3 (voteNs pf.b) rfl HR3.out (by unfold maxLen; omega) (by omega) (Nat.le_trans hs1 hb3.out.size) ?_
         intro ao4 d4 w4 hown4 hgrow4
         have hb4 : Hid (Below (w.heap.size + 1) W0 w4) := hb3.out.grown hgrow4 (Nat.le_trans hs1 hb3.out.size) (fun j hj => (HO3.out.lt j hj).1)
         have HO4 := hide hown4
         clear hown4 hgrow4)
      | (go_at_call_of 19 (Value.int .u64 pf.b.head)
         refine (lvote_row pf.b _ w2 (KB.out.below (HW.out.trans (hb2.out.mono (Nat.le_succ _)))) hlb).mono ?_
         rintro e w3 ⟨ao3, n3, d3, rfl, hn3, hnb3, hrow3, hb⟩
         have hb3 : Hid (Below (w.heap.size + 1) W0 w3) := hb2.out.trans (hb.mono (Nat.le_trans hs1 hb2.out.size))
         have HO3 := hide (owns_below HO2.out hb)
         have HR3 := hide hrow3
         clear hb hrow3)
      | (refine step_append_rows rfl (.tmp 32) (.tmp 36) 48 rfl (w.heap.size + 1) 25 i0 .u64 (.int .u64 0) 8 Try.underlying48 hi hz0 hz1 hz2 rfl (.slice (some ⟨w.heap.size + 1, 0, none⟩) 1 1) 1 [3] rfl HO1.out ao1 n1 d1 (voteNs pf.a) rfl HR1.out (by unfold maxLen; omega) (by omega) (Nat.le_trans hs1 hb1.out.size) ?_
         intro ao2 d2 w2 hown2 hgrow2
         have hb2 : Hid (Below (w.heap.size + 1) W0 w2) := hb1.out.grown hgrow2 (Nat.le_trans hs1 hb1.out.size) (fun j hj => (HO1.out.lt j hj).1)
         have HO2 := hide hown2
         clear hown2 hgrow2)
      | (go_at_call_of 19 (Value.int .u64 pf.a.head)
         refine (lvote_row pf.a _ W0.drew KA.out hla).mono ?_
         rintro e w1 ⟨ao1, n1, d1, rfl, hn1, hnb1, hrow1, hb⟩
         have hb0 := hWd.out.trans hb
         have hb1 : Hid (Below (w.heap.size + 1) W0 w1) := hb0.mono hs1
         have HO1 := hide (owns_below H0.out hb0)
         have HR1 := hide hrow1
         clear hb hb0 hrow1))
  all_goals
    go_wp2
    go_ret
    refine ⟨_, rfl, ?_, HW.out.trans (hb4.out.mono (Nat.le_succ _))⟩
    exact OwnsU.of HO4.out (by rw [List.length_cons, List.length_append, hn1.out, hn3.out]; omega) (by simp) (Nat.le_succ _)
end Go.Proofs.Ytdigpjfgjlhhjaa

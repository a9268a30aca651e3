/- Contract of wire's layProof. -/
import Derived.Test.YtdigpjfgjlhhjaaWLay

import Derived.Deep.RegionHeld3

namespace Go.Proofs.Ytdigpjfgjlhhjaa

open Go.ChangeShapes Go.WideShapes Go.ChangeAt Go.RowKit

set_option linter.unusedVariables false

abbrev prC (p : Pf) (a4 : Option Addr) (l4 c4 : Nat) (a5 : Option Addr) (l5 c5 : Nat) : Obj := .cells #[.int .i64 p.a.slot, .int .u64 p.a.head, .int .i64 p.a.sE, .int .u64 p.a.sR, .int .i64 p.a.tE, .int .u64 p.a.tR, .slice a4 l4 c4,
  .int .i64 p.b.slot, .int .u64 p.b.head, .int .i64 p.b.sE, .int .u64 p.b.sR, .int .i64 p.b.tE, .int .u64 p.b.tR, .slice a5 l5 c5] 36

theorem vote_more {ns : List Int} {v : Vt} {n n' : Nat} (hn : ns.length = n) (h : (ns ++ voteNs v).length = n') (hl : v.who.length ≤ 4096) : n' ≤ n + 4103 := by
  rw [← h, List.length_append, voteNs_len]; omega

set_option maxHeartbeats 2000000 in
theorem layProof_any (p : Pf) (cs : List Value) (w0 w : World) (base n d : Nat) (ao : Option Addr) (ns : List Int) (hb : Below w0.heap.size w0 w) (h0 : w0.heap.size ≤ base) (hbs : base ≤ w.heap.size) (h : ProofC w0 cs p) (hla : p.a.who.length ≤ 4096) (hlb : p.b.who.length ≤ 4096)
    (hn : ns.length = n) (hn2 : n ≤ 999999990000) (ho : OwnsU w base (.slice ao n d) ns) :
    Calls Try.prog 31 #[.slice ao n d, .agg cs.toArray] w fun e w' => ∃ ao' n' d', e = .returned (.slice ao' n' d') ∧ Hid ((ns ++ pfNs p).length = n') ∧ Lay base w (.slice ao' n' d') (ns ++ pfNs p) w' := by
  obtain ⟨x, y, rfl, h1, h2⟩ := h
  obtain ⟨a4, l4, c4, rfl, HA⟩ := h1.out
  obtain ⟨a5, l5, c5, rfl, HB⟩ := h2.out
  obtain ⟨W0, hW0⟩ : ∃ W, Hid (w.alloc (prC p a4 l4 c4 a5 l5 c5) = W) := ⟨_, rfl⟩
  have LW : Hid (Lay base w (.slice ao n d) ns W0) := by rw [← hW0.out]; exact (Lay.refl ho).alloc hbs _
  have hWd : Below W0.heap.size W0 W0.drew := (Below.refl _ _).drew
  have LD : Hid (Lay base w (.slice ao n d) ns W0.drew) := LW.out.below hbs hWd
  have hO : W0.heap[w.heap.size]? = some (prC p a4 l4 c4 a5 l5 c5) := by rw [← hW0.out]; exact heap_alloc_new _ _
  have hOd : Hid (W0.drew.heap[w.heap.size]? = some (prC p a4 l4 c4 a5 l5 c5)) := hO
  have hne : Hid (36 ≠ 25) := show _ ≠ _ by decide
  have hsW : base ≤ W0.drew.heap.size := Nat.le_trans hbs LD.out.bel.size
  have N0 := hide hn
  have hcs : Hid (∀ w' : World, w'.heap[w.heap.size]? = some (prC p a4 l4 c4 a5 l5 c5) → w'.cell? ⟨w.heap.size, 0, none⟩ = some (.int .i64 p.a.slot) ∧ w'.cell? ⟨w.heap.size, 1, none⟩ = some (.int .u64 p.a.head) ∧ w'.cell? ⟨w.heap.size, 2, none⟩ = some (.int .i64 p.a.sE) ∧
      w'.cell? ⟨w.heap.size, 3, none⟩ = some (.int .u64 p.a.sR) ∧ w'.cell? ⟨w.heap.size, 4, none⟩ = some (.int .i64 p.a.tE) ∧ w'.cell? ⟨w.heap.size, 5, none⟩ = some (.int .u64 p.a.tR) ∧ w'.cell? ⟨w.heap.size, 6, none⟩ = some (.slice a4 l4 c4) ∧
      w'.cell? ⟨w.heap.size, 7, none⟩ = some (.int .i64 p.b.slot) ∧ w'.cell? ⟨w.heap.size, 8, none⟩ = some (.int .u64 p.b.head) ∧ w'.cell? ⟨w.heap.size, 9, none⟩ = some (.int .i64 p.b.sE) ∧
      w'.cell? ⟨w.heap.size, 10, none⟩ = some (.int .u64 p.b.sR) ∧ w'.cell? ⟨w.heap.size, 11, none⟩ = some (.int .i64 p.b.tE) ∧ w'.cell? ⟨w.heap.size, 12, none⟩ = some (.int .u64 p.b.tR) ∧ w'.cell? ⟨w.heap.size, 13, none⟩ = some (.slice a5 l5 c5)) := fun w' h => by
    have hh := fun i => cell_of_row w' w.heap.size i _ _ _ h
    exact ⟨hh 0, hh 1, hh 2, hh 3, hh 4, hh 5, hh 6, hh 7, hh 8, hh 9, hh 10, hh 11, hh 12, hh 13⟩
  have KA := hide HA
  have KB := hide HB
  have HBW := hide hb
  have KS := hide (hcs.out W0 hO)
  clear ho hb hn HA HB h1 h2 hO hWd
  go_enter Try.func31, Try.ntmps31
  go_upto_region 1 with fail
  rw [hW0.out]
  obtain ⟨q1, q2, q3, q4, q5, q6, q7, q8, q9, q10, q11, q12, q13, q14⟩ := KS.out
  go_region_held3 (fun w' => w'.cell? ⟨w.heap.size, 0, none⟩ = some (.int .i64 p.a.slot) ∧ w'.cell? ⟨w.heap.size, 1, none⟩ = some (.int .u64 p.a.head) ∧ w'.cell? ⟨w.heap.size, 2, none⟩ = some (.int .i64 p.a.sE) ∧
      w'.cell? ⟨w.heap.size, 3, none⟩ = some (.int .u64 p.a.sR) ∧ w'.cell? ⟨w.heap.size, 4, none⟩ = some (.int .i64 p.a.tE) ∧ w'.cell? ⟨w.heap.size, 5, none⟩ = some (.int .u64 p.a.tR) ∧ w'.cell? ⟨w.heap.size, 6, none⟩ = some (.slice a4 l4 c4) ∧
      w'.cell? ⟨w.heap.size, 7, none⟩ = some (.int .i64 p.b.slot) ∧ w'.cell? ⟨w.heap.size, 8, none⟩ = some (.int .u64 p.b.head) ∧ w'.cell? ⟨w.heap.size, 9, none⟩ = some (.int .i64 p.b.sE) ∧
      w'.cell? ⟨w.heap.size, 10, none⟩ = some (.int .u64 p.b.sR) ∧ w'.cell? ⟨w.heap.size, 11, none⟩ = some (.int .i64 p.b.tE) ∧ w'.cell? ⟨w.heap.size, 12, none⟩ = some (.int .u64 p.b.tR) ∧ w'.cell? ⟨w.heap.size, 13, none⟩ = some (.slice a5 l5 c5))
    (first
      | exact hcs.out _ O2.out
      | exact hcs.out _ O1.out
      | exact hcs.out _ hOd.out
      | go_keep)
    (first
      | (go_at_call_of 30 (Value.int .u64 p.b.head)
         refine (layVote_any p.b _ w0 w1 base n1 d1 ao1 (ns ++ voteNs p.a) (HBW.out.trans (L1.out.bel.mono h0)) h0 (Nat.le_trans hbs L1.out.bel.size) KB.out hlb N1.out (by omega) L1.out.own).mono ?_
         rintro e w2 ⟨ao2, n2, d2, rfl, N2, hl⟩
         have L2 : Hid (Lay base w (.slice ao2 n2 d2) (ns ++ voteNs p.a ++ voteNs p.b) w2) := L1.out.trans hl
         have O2 : Hid (w2.heap[w.heap.size]? = some (prC p a4 l4 c4 a5 l5 c5)) := hl.obj O1.out hne.out
         clear hl)
      | (go_at_call_of 30 (Value.int .u64 p.a.head)
         refine (layVote_any p.a _ w0 W0.drew base n d ao ns (HBW.out.trans (LD.out.bel.mono h0)) h0 hsW KA.out hla N0.out (by omega) LD.out.own).mono ?_
         rintro e w1 ⟨ao1, n1, d1, rfl, N1, hl⟩
         have L1 : Hid (Lay base w (.slice ao1 n1 d1) (ns ++ voteNs p.a) w1) := LD.out.trans hl
         have O1 : Hid (w1.heap[w.heap.size]? = some (prC p a4 l4 c4 a5 l5 c5)) := hl.obj hOd.out hne.out
         have hm1 : n1 ≤ n + 4103 := vote_more N0.out N1.out hla
         clear hl))
  all_goals
    go_wp2
    go_ret
    have e : ns ++ voteNs p.a ++ voteNs p.b = ns ++ pfNs p := by rw [List.append_assoc]; rfl
    exact ⟨ao2, n2, d2, rfl, by rw [← e]; exact N2, by rw [← e]; exact L2.out⟩
end Go.Proofs.Ytdigpjfgjlhhjaa

/- Contracts of slices.order2Ordered, medianOrdered, choosePivotOrdered (of fewer than fifty numbers), of xorshift's Next, nextPowerOfTwo and breakPatternsOrdered: what they leave is what was, in another order. -/
import Derived.Test.YtphahkjjmomjcaaDoorTSort2

import Derived.Laws.Bits64b

import Derived.Laws.Bits64

namespace Go.Proofs.YtphahkjjmomjcaaDoor

open Go.ChangeShapes Go.WideShapes Go.ChangeAt Go.RowKit

open Go.Sort (swp ltInt PermIn SortedIn SWO)

set_option linter.unusedVariables false

def U64' (r : Int) : Prop := 0 ≤ r ∧ r < 18446744073709551616
theorem SRow.inner {w0 w : World} {base g cap : Nat} {d : Array Int} (h : SRow w0 base g cap d w) {s : Nat} (hs : w0.heap.size ≤ s) (hne : s ≠ g) (o : Nat) (v : Value) : SRow w0 base g cap d (w.setCell ⟨s, o, none⟩ v) :=
  ⟨owns_turnS h.own hne o v, h.apart.inner ((Apart.refl s w).set o v) hs hne⟩
where
  owns_turnS {w : World} {base g n cap : Nat} {xs : List Value} (h : w.ownsRow base 26 1 (.slice (some ⟨g, 0, none⟩) n cap) n xs) {s : Nat} (hne : s ≠ g) (o : Nat) (v : Value) : (w.setCell ⟨s, o, none⟩ v).ownsRow base 26 1 (.slice (some ⟨g, 0, none⟩) n cap) n xs := by
    refine ⟨h.1, ?_⟩
    rcases h.2 with ⟨e, h0⟩ | ⟨g', cap', cur, e, h1, h2, h3⟩
    · cases e
    · cases e
      exact .inr ⟨g, cap, cur, rfl, h1, (Below.heap_setCell _ _ _ _ (fun e => hne e.symm)).trans h2, h3⟩
/-- a counter of the call's own -/
structure CntAt (w0 w : World) (g s : Nat) (c : Int) : Prop where
  at_ : OAt w s (.cells #[.int .i64 c] 3)
  new : w0.heap.size ≤ s
  ne : s ≠ g
theorem CntAt.drewN {w0 w : World} {g s : Nat} {c : Int} (h : CntAt w0 w g s c) (q : Nat) : CntAt w0 (w.drewN q) g s c := ⟨⟨h.at_.lt, h.at_.at_⟩, h.new, h.ne⟩

set_option maxRecDepth 100000 in
set_option maxHeartbeats 1000000 in
theorem order2_any (base g cap x y s : Nat) (c : Int) (d : Array Int) (w0 w : World) (hR : SRow w0 base g cap d w) (hC : CntAt w0 w g s c) (hc : 0 ≤ c ∧ c ≤ 100) (hx : x < d.size) (hy : y < d.size) (hsz : d.size < 4611686018427387904) :
    Calls Tryd.prog 60 #[.slice (some ⟨g, 0, none⟩) d.size cap, .int .i64 x, .int .i64 y, .pointer (some ⟨s, 0, none⟩)] w fun e w' =>
      ∃ (x' y' : Nat) (c' : Int), e = .returned (.tuple #[.int .i64 x', .int .i64 y']) ∧ ((x' = x ∧ y' = y) ∨ (x' = y ∧ y' = x)) ∧ 0 ≤ c' ∧ c' ≤ c + 1 ∧ SRow w0 base g cap d w' ∧ CntAt w0 w' g s c' := by
  obtain ⟨n, hn⟩ : ∃ n, d.size = n := ⟨_, rfl⟩
  have HR := hide hR
  have HC := hide hC
  have HN := hide hn
  obtain ⟨G, hG⟩ : ∃ G : Nat → Int, Hid (∀ t, G t = d[t]!) := ⟨fun t => d[t]!, fun _ => rfl⟩
  have hcw : ∀ t, t < n → w.cell? ⟨g, t, none⟩ = some (.int .u64 (G t)) := fun t ht => by
    rw [hG.out]; exact HR.out.cell t (by rw [HN.out]; exact ht)
  rw [hn] at hx hy hsz ⊢
  clear hR hn hC
  go_enter Tryd.func60, Tryd.ntmps60
  go_wp2
  go_quiet (first | (go_at_call 35; refine Calls.quiet_of_same (less_quiet _ _ _)))
  have HR2 := hide (HR.out.drewN nq)
  have HC2 := hide (HC.out.drewN nq)
  clear hcw HR HC
  generalize wn : w.drewN nq = wq at HR2 HC2 ⊢
  clear wn
  have hs0 := HC2.out.at_.cell 0
  simp only [List.getElem?_toArray, List.getElem?_cons_zero] at hs0
  have hf0 : wq.frozen? ⟨s, 0, none⟩ = false := by unfold World.frozen?; rw [HC2.out.at_.at_]; simp
  generalize ltInt (G y) (G x) = B
  have HE1 : Hid (SRow w0 base g cap d (wq.setCell ⟨s, 0, none⟩ (.int .i64 (c + 1))) ∧ CntAt w0 (wq.setCell ⟨s, 0, none⟩ (.int .i64 (c + 1))) g s (c + 1)) := ⟨HR2.out.inner HC2.out.new HC2.out.ne 0 _, ⟨OAt.of (set_obj HC2.out.at_.at_ 0 _), HC2.out.new, HC2.out.ne⟩⟩
  cases B
  · go_wp2
    go_ret2
    exact ⟨x, y, c, rfl, .inl ⟨rfl, rfl⟩, hc.1, by omega, HR2.out, HC2.out⟩
  · go_wp2
    go_ret2
    exact ⟨y, x, c + 1, rfl, .inr ⟨rfl, rfl⟩, by omega, Int.le_refl _, HE1.out.1, HE1.out.2⟩

set_option maxRecDepth 100000 in
set_option maxHeartbeats 1000000 in
theorem median_any (base g cap x y z s : Nat) (c : Int) (d : Array Int) (w0 w : World) (hR : SRow w0 base g cap d w) (hC : CntAt w0 w g s c) (hc : 0 ≤ c ∧ c ≤ 90) (hx : x < d.size) (hy : y < d.size) (hz : z < d.size) (hsz : d.size < 4611686018427387904) :
    Calls Tryd.prog 58 #[.slice (some ⟨g, 0, none⟩) d.size cap, .int .i64 x, .int .i64 y, .int .i64 z, .pointer (some ⟨s, 0, none⟩)] w fun e w' =>
      ∃ (m : Nat) (c' : Int), e = .returned (.int .i64 m) ∧ (m = x ∨ m = y ∨ m = z) ∧ 0 ≤ c' ∧ c' ≤ c + 3 ∧ SRow w0 base g cap d w' ∧ CntAt w0 w' g s c' := by
  have HR := hide hR
  have HC := hide hC
  clear hR hC
  go_enter Tryd.func58, Tryd.ntmps58
  go_wp2_with fail
  refine (order2_any base g cap x y s c d w0 w HR.out HC.out (by omega) hx hy hsz).mono ?_
  rintro e w1 ⟨x1, y1, c1, rfl, h1, h2, h3, hR1, hC1⟩
  have hx1 : x1 < d.size := by omega
  have hy1 : y1 < d.size := by omega
  replace HR := hide hR1
  replace HC := hide hC1
  clear hR1 hC1
  go_wp2_with fail
  refine (order2_any base g cap y1 z s c1 d w0 w1 HR.out HC.out (by omega) hy1 hz hsz).mono ?_
  rintro e w2 ⟨y2, z2, c2, rfl, h4, h5, h6, hR1, hC1⟩
  have hy2 : y2 < d.size := by omega
  replace HR := hide hR1
  replace HC := hide hC1
  clear hR1 hC1
  go_wp2_with fail
  refine (order2_any base g cap x1 y2 s c2 d w0 w2 HR.out HC.out (by omega) hx1 hy2 hsz).mono ?_
  rintro e w3 ⟨x3, y3, c3, rfl, h7, h8, h9, hR1, hC1⟩
  replace HR := hide hR1
  replace HC := hide hC1
  have HM : Hid (y3 = x ∨ y3 = y ∨ y3 = z) := hide (by omega)
  have HQ : Hid (0 ≤ c3 ∧ c3 ≤ c + 3) := hide (by omega)
  clear hR1 hC1 h1 h2 h3 h4 h5 h6 h7 h8 h9
  go_wp2
  go_ret
  exact ⟨y3, c3, rfl, HM.out, HQ.out.1, HQ.out.2, HR.out, HC.out⟩

set_option maxRecDepth 100000 in
set_option maxHeartbeats 1000000 in
theorem choose_any (base g cap a b : Nat) (d : Array Int) (w0 w : World) (hR : SRow w0 base g cap d w) (hab : a + 8 ≤ b) (hb : b ≤ d.size) (hsz : d.size < 50) :
    Calls Tryd.prog 42 #[.slice (some ⟨g, 0, none⟩) d.size cap, .int .i64 a, .int .i64 b] w fun e w' =>
      ∃ (p : Nat) (h : Int), e = .returned (.tuple #[.int .i64 p, .int .i64 h]) ∧ a ≤ p ∧ p < b ∧ SRow w0 base g cap d w' := by
  obtain ⟨L, hL⟩ : ∃ L, Hid (b - a = L) := ⟨_, rfl⟩
  have hba : (b : Int) - (a : Int) = (L : Int) := by have := hL.out; omega
  have hL8 : 8 ≤ L := by have := hL.out; omega
  have hL50 : L < 50 := by have := hL.out; omega
  have HS := hide (hR.alloc (.cells #[.int .i64 0] 3))
  have HC : Hid (CntAt w0 (w.alloc (.cells #[.int .i64 0] 3)) g w.heap.size 0) := ⟨OAt.new _ _, hR.apart.size, fun e => by have := hR.lt; omega⟩
  have h8i : (8 : Int) ≤ (L : Int) := by omega
  have h50i : ¬ (50 : Int) ≤ (L : Int) := by omega
  obtain ⟨q, hq⟩ : ∃ q, Hid (L / 4 = q) := ⟨_, rfl⟩
  have hqi : (L : Int) / 4 = (q : Int) := by have := hq.out; omega
  have hqb : a + q * 3 < b ∧ q ≤ 12 := by have := hq.out; have := hL.out; omega
  obtain ⟨hq3, hq12⟩ := hqb
  have e1 : (q : Int) * 1 = (q : Int) := by omega
  clear hR
  go_enter Tryd.func42, Tryd.ntmps42
  go_wp2_with fail
  rw [show (a : Int) + (q : Int) = ((a + q : Nat) : Int) by omega, show (a : Int) + (q : Int) * 2 = ((a + q * 2 : Nat) : Int) by omega, show (a : Int) + (q : Int) * 3 = ((a + q * 3 : Nat) : Int) by omega]
  refine (median_any base g cap (a + q) (a + q * 2) (a + q * 3) w.heap.size 0 d w0 _ HS.out HC.out (by omega) (by omega) (by omega) (by omega) (by omega)).mono ?_
  rintro e w1 ⟨m, c, rfl, h1, h2, h3, hR1, hC1⟩
  have HM : Hid (a ≤ m ∧ m < b) := hide (by omega)
  have HR := hide hR1
  have hs0 := hC1.at_.cell 0
  simp only [List.getElem?_toArray, List.getElem?_cons_zero] at hs0
  clear hR1 hC1 HS HC h1
  by_cases hc0 : c = 0
  · subst hc0
    go_wp2
    go_ret2
    exact ⟨m, _, rfl, HM.out.1, HM.out.2, HR.out⟩
  · have hcb : (c == 0) = false := by simpa using hc0
    have hcc : (c == 12) = false := by simp; omega
    go_wp2
    go_ret2
    exact ⟨m, _, rfl, HM.out.1, HM.out.2, HR.out⟩

/-! ### numbers that look random -/
theorem xor_nat (r : Nat) (x : Int) (hr : r < 18446744073709551616) : ∃ r' : Nat, bits .xor .u64 (r : Int) (IntKind.u64.wrap x) = (r' : Int) ∧ r' < 18446744073709551616 := by
  have e : IntKind.u64.wrap x = (((x % 18446744073709551616).toNat : Nat) : Int) := by rw [IntKind.wrap_u64]; omega
  have hb : (x % 18446744073709551616).toNat < 18446744073709551616 := by omega
  rw [e, bits_xor_u64_nat r _ hr hb]
  exact ⟨_, rfl, Nat.xor_lt_two_pow (n := 64) hr hb⟩
theorem xor_nat2 (r k : Nat) (hr : r < 18446744073709551616) : ∃ r' : Nat, bits .xor .u64 (r : Int) ((r : Int) / (k : Int)) = (r' : Int) ∧ r' < 18446744073709551616 := by
  have hb : r / k < 18446744073709551616 := Nat.lt_of_le_of_lt (Nat.div_le_self _ _) hr
  rw [show (r : Int) / (k : Int) = ((r / k : Nat) : Int) from rfl, bits_xor_u64_nat r _ hr hb]
  exact ⟨_, rfl, Nat.xor_lt_two_pow (n := 64) hr hb⟩
set_option maxRecDepth 100000 in
set_option maxHeartbeats 1000000 in
theorem next_ptr_any (s : Nat) (r : Nat) (w : World) (hs : OAt w s (.cells #[.int .u64 (r : Int)] 108)) (hr : r < 18446744073709551616) :
    Calls Tryd.prog 56 #[.pointer (some ⟨s, 0, none⟩)] w fun e w' => ∃ (r' : Nat), e = .returned (.int .u64 (r' : Int)) ∧ r' < 18446744073709551616 ∧ OAt w' s (.cells #[.int .u64 (r' : Int)] 108) ∧ Apart s w w' := by
  have step : ∀ (v : World) (a b : Nat), OAt v s (.cells #[.int .u64 (a : Int)] 108) → OAt (v.setCell ⟨s, 0, none⟩ (.int .u64 (b : Int))).drew s (.cells #[.int .u64 (b : Int)] 108) ∧ Apart s v (v.setCell ⟨s, 0, none⟩ (.int .u64 (b : Int))).drew := fun v a b h =>
    ⟨OAt.drew (OAt.of (set_obj h.at_ 0 _)), ((Apart.refl s v).set 0 _).drew⟩
  have fro : ∀ (v : World) (a : Nat), OAt v s (.cells #[.int .u64 (a : Int)] 108) → v.cell? ⟨s, 0, none⟩ = some (.int .u64 (a : Int)) ∧ v.frozen? ⟨s, 0, none⟩ = false := fun v a h => by
    refine ⟨?_, ?_⟩
    · rw [h.cell]; rfl
    · unfold World.frozen?; rw [h.at_]; simp
  have HST := hide step
  have HFR := hide fro
  clear step fro
  have HS := hide hs
  obtain ⟨c0, f0⟩ := HFR.out w r hs
  clear hs
  obtain ⟨r1, h1, hb1⟩ := xor_nat r ((r : Int) * 8192) hr
  go_enter Tryd.func56, Tryd.ntmps56
  go_wp2
  go_region
  obtain ⟨hs1, ha1⟩ := HST.out w r r1 HS.out
  try rw [h1]
  clear c0 f0 h1
  generalize (w.setCell ⟨s, 0, none⟩ (.int .u64 (r1 : Int))).drew = w1 at hs1 ha1 ⊢
  have HS1 := hide hs1
  have HA1 := hide ha1
  obtain ⟨c0, f0⟩ := HFR.out w1 r1 hs1
  clear hs1 ha1
  obtain ⟨r2, h2, hb2⟩ := xor_nat2 r1 128 hb1
  have h2' : bits .xor .u64 (r1 : Int) ((r1 : Int) / 128) = (r2 : Int) := h2
  clear h2
  go_wp2
  go_region
  obtain ⟨hs2, ha2⟩ := HST.out w1 r1 r2 HS1.out
  try rw [h2']
  clear c0 f0 h2'
  generalize (w1.setCell ⟨s, 0, none⟩ (.int .u64 (r2 : Int))).drew = w2 at hs2 ha2 ⊢
  have HS2 := hide hs2
  have HA2 := hide (HA1.out.trans ha2)
  obtain ⟨c0, f0⟩ := HFR.out w2 r2 hs2
  clear hs2 ha2
  obtain ⟨r3, h3, hb3⟩ := xor_nat r2 ((r2 : Int) * 131072) hb2
  go_wp2
  go_region
  obtain ⟨hs3, ha3⟩ := HST.out w2 r2 r3 HS2.out
  try rw [h3]
  clear c0 f0 h3
  generalize (w2.setCell ⟨s, 0, none⟩ (.int .u64 (r3 : Int))).drew = w3 at hs3 ha3 ⊢
  have HS3 := hide hs3
  have HA3 := hide (HA2.out.trans ha3)
  obtain ⟨c0, f0⟩ := HFR.out w3 r3 hs3
  clear hs3 ha3
  go_wp2
  go_ret
  exact ⟨r3, rfl, hb3, HS3.out, HA3.out⟩
theorem bl_fin : ∀ k : Fin 50, 8 ≤ k.val → (Lib.bitLen k.val = 4 ∧ k.val < 16) ∨ (Lib.bitLen k.val = 5 ∧ 16 ≤ k.val ∧ k.val < 32) ∨ (Lib.bitLen k.val = 6 ∧ 32 ≤ k.val) := by decide +kernel
theorem pow2_any (L : Nat) (w : World) (h8 : 8 ≤ L) (h50 : L < 50) : Calls Tryd.prog 55 #[.int .i64 (L : Int)] w fun e w' => ∃ M : Nat, e = .returned (.int .u64 (M : Int)) ∧ 1 ≤ M ∧ M ≤ 2 * L ∧ w' = w := by
  have HL := Tryd.bits_Len (L : Int) w (by omega) (by omega)
  rw [show ((L : Nat) : Int).toNat = L from by omega] at HL
  have hwu : IntKind.u64.wrap (L : Int) = (L : Int) := by rw [IntKind.wrap_u64]; omega
  rcases bl_fin ⟨L, h50⟩ h8 with ⟨e, h⟩ | ⟨e, h, _⟩ | ⟨e, h⟩
  all_goals
    simp only at e h
    rw [e] at HL
    have H := hide HL
    clear HL e
    go_enter Tryd.func55, Tryd.ntmps55
    go_wp2_with (go_at_call 29; refine H.out.mono ?_; rintro e w' ⟨rfl, hw⟩; obtain rfl : _ = w' := hw.symm)
    go_ret
  · exact ⟨16, rfl, by omega, by omega, rfl⟩
  · exact ⟨32, rfl, by omega, by omega, rfl⟩
  · exact ⟨64, rfl, by omega, by omega, rfl⟩

theorem SRow.apart2 {w0 w w' : World} {base g cap : Nat} {d : Array Int} (h : SRow w0 base g cap d w) {s : Nat} (k : Apart s w w') (hs : w0.heap.size ≤ s) (hne : s ≠ g) : SRow w0 base g cap d w' := by
  refine ⟨⟨h.own.1, ?_⟩, h.apart.inner k hs hne⟩
  rcases h.own.2 with ⟨e, h0⟩ | ⟨g', cap', cur, e, h1, h2, h3⟩
  · cases e
  · cases e
    exact .inr ⟨g, cap, cur, rfl, h1, (k.block g (OAt.of h2).lt (fun e => hne e.symm)).trans h2, h3⟩
set_option maxRecDepth 100000 in
set_option maxHeartbeats 2000000 in
theorem break_any (base g cap a b : Nat) (d : Array Int) (w0 w : World) (hR : SRow w0 base g cap d w) (hab : a + 8 ≤ b) (hb : b ≤ d.size) (hsz : d.size < 50) :
    Calls Tryd.prog 41 #[.slice (some ⟨g, 0, none⟩) d.size cap, .int .i64 a, .int .i64 b] w fun e w' => e = .returned (.tuple #[]) ∧ Mixed w0 base g cap d a b w' := by
  obtain ⟨n, hn⟩ : ∃ n, d.size = n := ⟨_, rfl⟩
  obtain ⟨L, hL⟩ : ∃ L, Hid (b - a = L) := ⟨_, rfl⟩
  have hba : (b : Int) - (a : Int) = (L : Int) := by have := hL.out; omega
  have hL8 : 8 ≤ L := by have := hL.out; omega
  have hL50 : L < 50 := by have := hL.out; omega
  have hLn : a + L ≤ n := by have := hL.out; omega
  have hLb : a + L = b := by have := hL.out; omega
  have HN := hide hn
  have h8i : (8 : Int) ≤ (L : Int) := by omega
  obtain ⟨q, hq⟩ : ∃ q, Hid (L / 4 = q) := ⟨_, rfl⟩
  have hqi : (L : Int) / 4 = (q : Int) := by have := hq.out; omega
  have hq1 : 1 ≤ q * 2 ∧ q * 2 + 1 < L := by have := hq.out; omega
  obtain ⟨hq1, hq2⟩ := hq1
  have hwu : IntKind.u64.wrap (L : Int) = (L : Int) := by rw [IntKind.wrap_u64]; omega
  obtain ⟨W1, hW1⟩ : ∃ x, w.alloc (.cells #[.int .u64 (L : Int)] 108) = x := ⟨_, rfl⟩
  have HS : Hid (SRow w0 base g cap d W1) := by show _; rw [← hW1]; exact hR.alloc _
  have HX : Hid (OAt W1 w.heap.size (.cells #[.int .u64 (L : Int)] 108)) := by show _; rw [← hW1]; exact OAt.new _ _
  have HSN : Hid (w0.heap.size ≤ w.heap.size ∧ w.heap.size ≠ g) := hide ⟨hR.apart.size, fun e => by have := hR.lt; omega⟩
  rw [hn] at hb hsz ⊢
  clear hR hn
  go_enter Tryd.func41, Tryd.ntmps41
  go_wp2_with fail
  generalize w.heap.size = s at HX HSN ⊢
  clear hW1
  refine (pow2_any L W1 hL8 hL50).mono ?_
  rintro e w' ⟨M, rfl, hM1, hM2, hw⟩
  obtain rfl : _ = w' := hw.symm
  have hM : M ≤ 100 := by omega
  go_wp2
  go_loopw [9] (fun v wr => ∃ (i r : Nat) (dk : Array Int), v = .int .i64 (i : Int) ∧ a + q * 2 - 1 ≤ i ∧ i ≤ a + q * 2 + 2 ∧ Hid (r < 18446744073709551616 ∧ dk.size = n ∧ SRow w0 base g cap dk wr ∧ OAt wr s (.cells #[.int .u64 (r : Int)] 108) ∧ PermIn a b d dk)) (fun v _ => a + q * 2 + 2 - (intOf v).toNat)
  case atStart => exact ⟨a + q * 2 - 1, L, d, by congr 1; omega, by omega, by omega, hide ⟨by omega, HN.out, HS.out, HX.out, Go.Sort.permIn_refl _ _ _⟩⟩
  case round =>
    clear HS HX
    obtain ⟨i, r, dk, rfl, hi1, hi2, hI⟩ := hrel
    by_cases hlt : i ≤ a + q * 2 + 1
    · have hlti : (i : Int) ≤ (a : Int) + (q : Int) * 2 + 1 := by omega
      go_wp2_with fail
      refine (next_ptr_any s r wr hI.out.2.2.2.1 hI.out.1).mono ?_
      rintro e w2 ⟨r', rfl, hr', hs2, ha2⟩
      have HR2 := hide (hI.out.2.2.1.apart2 ha2 HSN.out.1 HSN.out.2)
      have HS2 := hide hs2
      obtain ⟨O, hO⟩ : ∃ O, Hid (r' &&& (M - 1) = O) := ⟨_, rfl⟩
      have hOM : O ≤ M - 1 := by rw [← hO.out]; exact Nat.and_le_right
      have hand : bits .and .u64 (r' : Int) ((M : Int) - 1) = (O : Int) := by
        rw [show ((M : Int) - 1) = ((M - 1 : Nat) : Int) by omega, bits_and_u64_nat _ _ hr' (by omega), hO.out]
      have hMw : IntKind.u64.wrap ((M : Int) - 1) = (M : Int) - 1 := by rw [IntKind.wrap_u64]; omega
      clear hs2 ha2 hO
      go_upto_region 8 with fail
      clear hand hMw
      have hrr := hide hr'
      clear hr'
      have swaps : Hid (∀ P : Nat, P < L → ∀ G : Nat → Int, (∀ t, G t = dk[t]!) → ∃ (r2 : Nat) (dj : Array Int), r2 < 18446744073709551616 ∧ dj.size = n ∧ SRow w0 base g cap dj ((w2.setCell ⟨g, i, none⟩ (.int .u64 (G (a + P)))).setCell ⟨g, a + P, none⟩ (.int .u64 (G i))).drew ∧ OAt ((w2.setCell ⟨g, i, none⟩ (.int .u64 (G (a + P)))).setCell ⟨g, a + P, none⟩ (.int .u64 (G i))).drew s (.cells #[.int .u64 (r2 : Int)] 108) ∧ PermIn a b d dj) := fun P hP G hG => by
        have hsn := HSN.out.2
        refine ⟨r', swp dk i (a + P), hrr.out, by rw [size_swpI]; exact hI.out.2.1, ?_, ?_, ?_⟩
        · rw [hG, hG]
          exact (HR2.out.swap i (a + P) (by rw [hI.out.2.1]; omega) (by rw [hI.out.2.1]; omega)).drew
        · exact OAt.drew ((HS2.out.apart ((Apart.refl g w2).set i _) hsn).apart ((Apart.refl g _).set (a + P) _) hsn)
        · exact Go.Sort.permIn_trans _ _ _ _ _ hI.out.2.2.2.2 (Go.Sort.swp_permIn _ _ _ _ _ (by omega) (by omega) (by omega) (by omega) (by rw [hI.out.2.1]; omega))
      obtain ⟨G, hG⟩ : ∃ G : Nat → Int, Hid (∀ t, G t = dk[t]!) := ⟨fun t => dk[t]!, fun _ => rfl⟩
      have hcw : ∀ t, t < n → w2.cell? ⟨g, t, none⟩ = some (.int .u64 (G t)) := fun t ht => by
        rw [hG.out]; exact HR2.out.cell t (by rw [hI.out.2.1]; exact ht)
      have hfw : ∀ t, t < n → w2.frozen? ⟨g, t, none⟩ = false := fun t ht => HR2.out.frozen t
      go_upto_if 43 with fail
      go_cut [10] from 41 to 46 (fun v wx => ∃ P : Nat, v = .int .i64 (P : Int) ∧ P < L ∧ wx = w2)
      case first =>
        by_cases hge : L ≤ O
        · have hgei : (L : Int) ≤ (O : Int) := by omega
          go_wp2
          go_meet
          exact ⟨O - L, by congr 1; omega, by omega, rfl⟩
        · have hgei : ¬ (L : Int) ≤ (O : Int) := by omega
          go_wp2
          go_meet
          exact ⟨O, rfl, by omega, rfl⟩
      case rest =>
        obtain ⟨P, rfl, hP, rfl⟩ := hcut
        have hin : i < n := by omega
        have haP : a + P < n := by omega
        have x1 : IntKind.i64.wrap ((a : Int) + (P : Int)) = ((a + P : Nat) : Int) := by rw [IntKind.wrap_i64]; omega
        obtain ⟨r2, dj, g1, g2, g3, g4, g5⟩ := swaps.out P hP G hG.out
        have HEND := hide (⟨g1, g2, g3, g4, g5⟩ : _ ∧ _ ∧ _ ∧ _ ∧ _)
        clear swaps g1 g2 g3 g4 g5
        by_cases hiP : i = a + P
        · rw [← hiP] at HEND x1
          have r1 : a + P = i := hiP.symm
          have r3 : (a : Int) + (P : Int) = (i : Int) := by omega
          clear hiP haP
          go_wp2
          go_region
          go_wp2
          go_roundw
          case rel => exact ⟨i + 1, r2, dj, by go_num, by omega, by omega, HEND⟩
          case measure => simp [intOf]; omega
        · have hiP2 : ¬ a + P = i := fun e => hiP e.symm
          go_wp2
          go_region
          go_wp2
          go_roundw
          case rel => exact ⟨i + 1, r2, dj, by go_num, by omega, by omega, HEND⟩
          case measure => simp [intOf]; omega
    · have hlti : ¬ (i : Int) ≤ (a : Int) + (q : Int) * 2 + 1 := by omega
      go_wp2
      go_end0
      exact ⟨rfl, dk, hI.out.2.2.2.2, hI.out.2.2.1⟩
end Go.Proofs.YtphahkjjmomjcaaDoor

/- Contract of psephoslaw04's bytes: events' bytes, of events that have some. -/
import Derived.Test.YtdigpjfgjlhhjaaWNums2

import Derived.Test.YtdigpjfgjlhhjaaOctPut

import Derived.Test.YtdigpjfgjlhhjaaMid

namespace Go.Proofs.Ytdigpjfgjlhhjaa

open Go.ChangeShapes Go.WideShapes Go.ChangeAt Go.RowKit

set_option linter.unusedVariables false

/-- an event's bytes; events' bytes -/
def evBytes (e : Ev) : List Int := flat (evNs e)
def bytesOf (es : List Ev) : List Int := es.flatMap evBytes
theorem bytesOf_snoc (es : List Ev) (k : Nat) (h : k < es.length) : bytesOf (es.take (k + 1)) = bytesOf (es.take k) ++ evBytes es[k] := fm_snoc es evBytes k h

theorem fm_len {α : Type} (l : List α) (f : α → List Int) (m : Nat) (h : ∀ x ∈ l, (f x).length ≤ m) : (l.flatMap f).length ≤ l.length * m := by
  induction l with
  | nil => simp
  | cons x l ih =>
    have h1 := h x (by simp)
    have h2 := ih (fun y hy => h y (by simp [hy]))
    rw [List.flatMap_cons, List.length_append, List.length_cons, Nat.add_mul]
    omega
theorem evNs_len (e : Ev) (h : evB e = true) : (evNs e).length ≤ 200000 := by
  unfold evB at h
  unfold evNs
  rw [List.length_cons]
  split at h
  · rename_i k; rw [if_pos k]; simp
  · rename_i k0
    split at h
    · rename_i k; rw [if_neg k0, if_pos k, voteNs_len]; have := fitsB_len h; omega
    · rename_i k2
      split at h
      · rename_i k
        simp only [pfB, Bool.and_eq_true] at h
        rw [if_neg k0, if_neg k2, if_pos k, pfNs, List.length_append, voteNs_len, voteNs_len]
        have := fitsB_len h.1
        have := fitsB_len h.2
        omega
      · rename_i k3
        split at h
        · rw [if_neg k0, if_neg k2, if_neg k3, bkNs, List.length_append, List.length_append]
          obtain ⟨h1, h2, h3, h4⟩ := bkB_of h
          have q1 := fm_len e.block.votes voteNs 4103 (fun v hv => by rw [voteNs_len]; have := h3 v hv; omega)
          have q2 := fm_len e.block.proofs pfNs 8206 (fun p hp => by rw [pfNs, List.length_append, voteNs_len, voteNs_len]; have := h4 p hp; omega)
          have q3 := Nat.mul_le_mul_right 4103 h1
          have q4 := Nat.mul_le_mul_right 8206 h2
          simp only [List.length_cons, List.length_nil]
          omega
        · cases h
theorem u64_b (x : Int) : IsU64 (u64 x) := by unfold IsU64 u64; omega
theorem voteNs_b (v : Vt) (h : v.Wf) (hl : v.who.length ≤ 4096) : ∀ n ∈ voteNs v, IsU64 n := by
  obtain ⟨h1, h2, h3, h4, h5, h6, h7⟩ := h
  intro n hn
  simp only [voteNs, List.mem_append, List.mem_cons, List.not_mem_nil, or_false, List.mem_map] at hn
  rcases hn with (rfl | rfl | rfl | rfl | rfl | rfl | rfl) | ⟨x, _, rfl⟩
  · exact u64_b _
  · exact h2
  · exact u64_b _
  · exact h4
  · exact u64_b _
  · exact h6
  · unfold IsU64; omega
  · exact u64_b _
theorem rows_mem {α : Type} {R : List Value → α → Prop} {size : Nat} {w : World} {ao : Option Addr} {n c : Nat} {vs : List α} (h : RowsIn R size w ao n c vs) : ∀ v ∈ vs, ∃ cs, R cs v := by
  intro v hv
  obtain ⟨i, hi, rfl⟩ := List.getElem_of_mem hv
  obtain ⟨_, _, cs, _, _, _, _, hr⟩ := h.row i hi
  exact ⟨cs, hr⟩
theorem evNs_b {w : World} {cs : List Value} (e : Ev) (h : EventC w cs e) (hok : evB e = true) : ∀ n ∈ evNs e, IsU64 n := by
  obtain ⟨_, x, y, z, _, ⟨hb, a1, l1, c1, a2, l2, c2, _, hV, hP⟩, hv, p, q, _, hp, hq⟩ := h
  intro n hn
  unfold evNs at hn
  rcases List.mem_cons.1 hn with rfl | hn
  · exact u64_b _
  unfold evB at hok
  split at hn
  · simp only [List.mem_cons, List.not_mem_nil, or_false] at hn
    rw [hn]
    exact u64_b _
  · rename_i k0
    rw [if_neg k0] at hok
    split at hn
    · rename_i k2
      rw [if_pos k2] at hok
      exact voteNs_b _ hv.1 (fitsB_len hok) n hn
    · rename_i k2
      rw [if_neg k2] at hok
      split at hn
      · rename_i k3
        rw [if_pos k3] at hok
        simp only [pfB, Bool.and_eq_true] at hok
        rcases List.mem_append.1 hn with h | h
        · exact voteNs_b _ hp.1 (fitsB_len hok.1) n h
        · exact voteNs_b _ hq.1 (fitsB_len hok.2) n h
      · rename_i k3
        rw [if_neg k3] at hok
        split at hok
        · obtain ⟨h1, h2, h3, h4⟩ := bkB_of hok
          simp only [bkNs, List.mem_append, List.mem_cons, List.not_mem_nil, or_false, List.mem_flatMap] at hn
          rcases hn with ((rfl | rfl | rfl | rfl | rfl) | ⟨v, hv, h⟩) | ⟨p, hp, h⟩
          · exact hb.1
          · exact hb.2.1
          · exact u64_b _
          · unfold IsU64; omega
          · unfold IsU64; omega
          · obtain ⟨cs, hc⟩ := rows_mem hV v hv
            exact voteNs_b v hc.1 (h3 v hv) n h
          · obtain ⟨cs, x, y, _, ha, hb⟩ := rows_mem hP p hp
            rcases List.mem_append.1 h with h | h
            · exact voteNs_b _ ha.1 (h4 p hp).1 n h
            · exact voteNs_b _ hb.1 (h4 p hp).2 n h
        · cases hok

theorem infoU8 : (Try.prog.info? 5).map (fun i => (i.zero, i.size, i.bytes)) = some (some (.int .u8 0), 1, 1) := by kernel_rfl

theorem infoEv : (Try.prog.info? 38).map (·.size) = some 28 := by kernel_rfl

set_option maxHeartbeats 2000000 in
theorem lbytes_any (es : List Ev) (a : Option Addr) (l c : Nat) (w : World) (h : RowsIn (EventC w) 28 w a l c es) (hok : ∀ e ∈ es, evB e = true) (hl : l ≤ 5000) :
    Calls Try.prog 7 #[.slice a l c] w fun r w' => ∃ ao n d, r = .returned (.slice ao n d) ∧ n = (bytesOf es).length ∧ n ≤ 8000000000 ∧ w'.ownsRow w.heap.size 5 1 (.slice ao n d) n ((bytesOf es).map (Value.int .u8)) ∧ Below w.heap.size w w' := by
  obtain ⟨i0, hi, hz0, hz1, hz2⟩ := info_parts infoU8
  have hlen := h.len
  have hcap := h.cap
  unfold maxLen at hcap
  have H := hide h
  have HOK := hide hok
  clear h hok
  go_enter Try.func7, Try.ntmps7
  go_wp2
  go_loopw [3, 8] (fun x i wr => ∃ (k : Nat) (ao : Option Addr) (n d : Nat), k ≤ l ∧ i = .int .i64 k ∧ x = .slice ao n d ∧ n ≤ 1600000 * k ∧ Hid ((bytesOf (es.take k)).length = n ∧ wr.ownsRow w.heap.size 5 1 (.slice ao n d) n ((bytesOf (es.take k)).map (Value.int .u8)) ∧ Below w.heap.size w wr)) (fun _ i _ => l - (intOf i).toNat)
  case atStart => exact ⟨0, none, 0, 0, Nat.zero_le _, rfl, rfl, by omega, hide ⟨rfl, World.ownsRow_nil _ _ _ _, Below.refl _ _⟩⟩
  case round =>
    obtain ⟨k, ao, n, d, hk, rfl, rfl, hnb, hI⟩ := hrel
    by_cases hlt : k < l
    · obtain ⟨b, off, cs, rfl, hbs, hcl, hcc, hE⟩ := H.out.row k (by omega)
      have hf := bytesOf_snoc es k (by omega)
      have hm := HOK.out _ (List.getElem_mem (show k < es.length by omega))
      obtain ⟨e, hge⟩ : ∃ v, Hid (es[k] = v) := ⟨_, hide rfl⟩
      rw [hge.out] at hE hf hm
      have ld1 : (Instr.loadAt 38 (.pointer (some ⟨b, off + k * 28, none⟩))).run Try.prog wr = .ok (.agg cs.toArray) wr :=
        load_mid Try.underlying38 infoEv hcl fun j hj => by
          have := (hI.out.2.2.cell (p := ⟨b, off + (k * 28 + j), none⟩) hbs).trans (hcc j hj)
          rwa [← Nat.add_assoc] at this
      have st1 : ∀ Z : Array Value, Z.size = 28 → (Instr.storeAt 38 (.pointer (some ⟨wr.heap.size, 0, none⟩)) (.agg cs.toArray)).run Try.prog (wr.alloc (.cells Z 38)) = .ok () (wr.alloc (.cells cs.toArray 38)) :=
        fun Z hZ => store_new infoEv hcl hZ hE.one.1 rfl
      have ld2 : (Instr.loadAt 38 (.pointer (some ⟨wr.heap.size, 0, none⟩))).run Try.prog (wr.alloc (.cells cs.toArray 38)) = .ok (.agg cs.toArray) (wr.alloc (.cells cs.toArray 38)) :=
        load_new Try.underlying38 infoEv hcl rfl
      have HE := hide hE
      have HF := hide hf
      have HM := hide hm
      have L1 := hide ld1
      have S1 := hide st1
      have L2 := hide ld2
      clear hE hf hm hcc hcl ld1 st1 ld2
      go_wp2_with (first
        | (refine wpList_load_at 38 (.tmp 10) rfl rfl (.pointer (some ⟨b, off + k * 28, none⟩)) rfl (.agg cs.toArray) L1.out ?_)
        | (refine wpList_store_at 38 (.tmp 5) (.tmp 11) rfl rfl (.pointer (some ⟨wr.heap.size, 0, none⟩)) (.agg cs.toArray) rfl rfl _ (S1.out _ rfl) ?_)
        | (refine wpList_load_at 38 (.tmp 5) rfl rfl (.pointer (some ⟨wr.heap.size, 0, none⟩)) rfl (.agg cs.toArray) L2.out ?_))
      refine (lnum_any e _ _ (HE.out.below (hI.out.2.2.trans ((below_alloc _ _).mono hI.out.2.2.size))) HM.out).mono ?_
      rintro r w1 ⟨v1, rfl, hr, hb1⟩
      obtain ⟨ao1, d1, rfl, hrow1⟩ := hr.form
      have hml := evNs_len _ HM.out
      have hmb := evNs_b _ HE.out HM.out
      have HMB := hide hmb
      obtain ⟨m1, hm1⟩ : ∃ m, Hid ((evNs e).length = m) := ⟨_, rfl⟩
      rw [hm1.out] at hrow1 hml
      rw [hm1.out]
      have HR1 := hide hrow1
      have hO1 := owns_below (hI.out.2.1.alloc (.cells cs.toArray 38)) hb1
      have hB1 := (hI.out.2.2.alloc hI.out.2.2.size (.cells cs.toArray 38)).trans (hb1.mono (by have := hI.out.2.2.size; simp; omega))
      have HO1 := hide hO1
      have HB1 := hide hB1
      have HLn := hide hI.out.1
      clear hr hb1 hrow1 hmb hO1 hB1 hI
      go_wp2_with fail
      refine (put_any [] (evNs e) none ao1 0 0 m1 d1 w1 (RowIn.ofNil _ _) HR1.out HMB.out (by omega)).mono ?_
      rintro r w2 ⟨rfl, hown2, hb2⟩
      rw [Nat.zero_add] at hown2
      rw [Nat.zero_add]
      rw [List.nil_append] at hown2
      have HR2 := hide (RowIn.owned hown2)
      have HO2 := hide (owns_below HO1.out hb2)
      have HB2 := hide (HB1.out.trans (hb2.mono HB1.out.size))
      have hs2 := HB2.out.size
      obtain ⟨g, hg⟩ : ∃ g, w1.heap.size = g := ⟨_, rfl⟩
      rw [hg] at HR2 ⊢
      clear hown2 hb2 HO1 hg
      go_wp2_with (at_builtin; refine wpList_append_rows _ rfl (.tmp 12) (.tmp 15) 40 rfl w.heap.size 5 i0 .u8 (.int .u8 0) 1 Try.underlying40 hi hz0 hz1 hz2 rfl (.slice ao n d) n (bytesOf (es.take k)) rfl HO2.out (some ⟨g, 0, none⟩) (8 * m1) (8 * m1) (flat (evNs e)) rfl HR2.out ?c1 ?c2 ?c3 ?_)
      case c1 => unfold maxLen; omega
      case c2 => omega
      case c3 => exact hs2
      intro ao4 d4 w4 hown4 hgrow4
      have hst : Hid ((bytesOf (es.take (k + 1))).length = n + 8 * m1 ∧ w4.ownsRow w.heap.size 5 1 (.slice ao4 (n + 8 * m1) d4) (n + 8 * m1) ((bytesOf (es.take (k + 1))).map (Value.int .u8)) ∧ Below w.heap.size w w4) := by
        refine hide ⟨?_, ?_, HB2.out.grown hgrow4 HB2.out.size (fun j hj => (HO2.out.lt j hj).1)⟩
        · rw [HF.out, List.length_append, HLn.out, evBytes, len_flat, hm1.out]
        · rw [HF.out, List.map_append, evBytes]
          exact hown4
      clear hown4 hgrow4
      go_wp2
      go_roundw
      case rel => exact ⟨k + 1, ao4, n + 8 * m1, d4, by omega, by go_num, rfl, by omega, hst⟩
      case measure => simp [intOf]; omega
    · have : k = l := by omega
      subst this
      rw [List.take_of_length_le (by omega)] at hI
      go_wp2
      go_ret
      exact ⟨ao, n, d, rfl, hI.out.1.symm, by omega, hI.out.2.1, hI.out.2.2⟩
end Go.Proofs.Ytdigpjfgjlhhjaa

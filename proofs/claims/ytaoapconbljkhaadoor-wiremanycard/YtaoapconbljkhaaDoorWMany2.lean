/- The walk of WireMany: more than 4096 events have no bytes, and bytes of more are wrong where the next one begins. -/
import Derived.Test.YtaoapconbljkhaaDoorWMany
namespace Go.Proofs.YtaoapconbljkhaaDoor
open Go.ChangeShapes Go.WideShapes Go.ChangeAt Go.RowKit
set_option linter.unusedVariables false

theorem tick_other (s t : Int) (j : Nat) (h : j ≠ 1) : (tickCs s)[j]? = (tickCs t)[j]? := by
  rcases j with _ | _ | j
  · rfl
  · exact absurd rfl h
  · rfl
theorem many_len (n : Nat) (hn : 4096 ≤ n) : (bytesOf ((List.replicate n (tick 7)).take 4096)).length = 65536 := by
  have h1 : (List.replicate n (tick 7)).take 4096 = (List.replicate 4096 (7 : Int)).map tick := by rw [List.take_replicate, List.map_replicate, Nat.min_eq_left hn]
  rw [h1, ticks_len _ (fun s hs => by rw [List.eq_of_mem_replicate hs]; omega), List.length_replicate]

set_option maxRecDepth 100000 in
set_option maxHeartbeats 4000000 in
theorem many_walk (more : Int) (hm : 0 ≤ more ∧ more ≤ 255) (w : World) (hg0 : w.cell? ⟨0, 0, none⟩ = some (.iface 95 (.agg #[.pointer (some ⟨1, 45, none⟩)]))) :
    Calls Tryd.prog 5 #[.int .u8 more] w fun e w' => e = .returned (.bool true) ∧ Below w.heap.size w w' := by
  have hlt0 : 0 < w.heap.size := by
    rcases Nat.eq_zero_or_pos w.heap.size with h0 | h
    · simp [World.cell?, h0] at hg0
    · exact h
  have HG := hide hg0
  clear hg0
  obtain ⟨n, hn⟩ : ∃ n : Nat, Hid ((4097 : Int) + more = (n : Int)) := ⟨(4097 + more).toNat, show (4097 : Int) + more = ((4097 + more).toNat : Int) by omega⟩
  have hn1 : (4096 : Int) < (n : Int) := by have := hn.out; omega
  have hn2 : (n : Int) ≤ 4352 := by have := hn.out; omega
  have hadd := hn.out
  have hwr : IntKind.i64.wrap more = more := by simp [IntKind.wrap, IntKind.bits, IntKind.signed]; omega
  obtain ⟨i0, hi, hz0, hz1, hz2⟩ := info_parts infoE
  go_enter Tryd.func5, Tryd.ntmps5
  go_wp2_with fail
  refine (awake_any _).mono ?_
  rintro r v1 ⟨rfl, hb1⟩
  have HB1 := hide hb1
  have hs1 := hb1.size
  clear hb1
  have MK : Hid ((Instr.makeSlice 22 (.int .i64 (n : Int)) (.int .i64 (n : Int))).run Tryd.prog v1 = .ok (.slice (some ⟨v1.heap.size, 0, none⟩) n n) (v1.alloc (.cells (madeCells (tickCs 0).toArray (n * 28)) 40))) := by
    have := run_make (P := Tryd.prog) v1 22 40 i0 (.agg (tickCs 0).toArray) Tryd.underlying22 hi hz0 .i64 .i64 n n (by omega) (Int.le_refl _) (by rw [hz2]; omega) (by omega)
    rw [hz1] at this
    simp only [Int.toNat_natCast] at this
    exact this
  obtain ⟨u0, hu0⟩ : ∃ x, Hid (v1.alloc (.cells (madeCells (tickCs 0).toArray (n * 28)) 40) = x) := ⟨_, rfl⟩
  have X0 : u0.heap[v1.heap.size]? = some (.cells (madeCells (tickCs 0).toArray (n * 28)) 40 (0, 0)) := by rw [← hu0.out]; exact heap_alloc_new _ _
  have B0 : Below v1.heap.size v1 u0 := by rw [← hu0.out]; exact below_alloc _ _
  have S0 : v1.heap.size < u0.heap.size := by rw [← hu0.out]; simp
  rw [hu0.out] at MK
  obtain ⟨g, hg⟩ : ∃ x, Hid (v1.heap.size = x) := ⟨_, rfl⟩
  rw [hg.out] at MK X0 B0 S0 hs1
  have C0 : ∀ i, i < n → ∀ j, j < 28 → u0.cell? ⟨g, i * 28 + j, none⟩ = (tickCs 0)[j]? := fun i hi j hj => by
    rw [cell_of_row u0 g (i * 28 + j) _ _ _ X0]
    exact made_get (tickCs 0) n i j (by decide) hi hj
  have F0 : ∀ o, u0.frozen? ⟨g, o, none⟩ = false := fun o => by unfold World.frozen?; rw [X0]; simp
  have I0 : Hid ((∀ i, i < n → ∀ j, j < 28 → u0.cell? ⟨g, i * 28 + j, none⟩ = (tickCs 0)[j]?) ∧ (∀ o, u0.frozen? ⟨g, o, none⟩ = false) ∧ Below g v1 u0 ∧ g < u0.heap.size) := ⟨C0, F0, B0, S0⟩
  clear C0 F0 B0 S0 X0
  go_upto_region 4 with (refine wpList_make_at 22 (.tmp 15) (.tmp 15) rfl rfl (.int .i64 (n : Int)) (.int .i64 (n : Int)) rfl rfl _ MK.out ?_)
  clear MK hadd hwr
  go_wp2
  go_loopw [19] (fun i wr => ∃ k : Nat, k ≤ n ∧ i = .int .i64 k ∧
      Hid ((∀ i, i < n → ∀ j, j < 28 → wr.cell? ⟨g, i * 28 + j, none⟩ = (if i < k then tickCs 7 else tickCs 0)[j]?) ∧ (∀ o, wr.frozen? ⟨g, o, none⟩ = false) ∧ Below g v1 wr ∧ g < wr.heap.size)) (fun i _ => n - (intOf i).toNat)
  case atStart => exact ⟨0, Nat.zero_le _, rfl, hide ⟨fun i hi j hj => by rw [if_neg (by omega)]; exact I0.out.1 i hi j hj, I0.out.2.1, I0.out.2.2.1, I0.out.2.2.2⟩⟩
  case round =>
    obtain ⟨k, hk, rfl, hI⟩ := hrel
    by_cases hlt : k < n
    · obtain ⟨hC, hF, hB, hS⟩ := hI.out
      have c1 : wr.cell? ⟨g, k * 28 + 1, none⟩ = some (.int .i64 0) := by
        have := hC k hlt 1 (by omega)
        rw [if_neg (by omega)] at this
        exact this
      have f1 := hF (k * 28 + 1)
      obtain ⟨w6, hw6⟩ : ∃ x, Hid (wr.setCell ⟨g, k * 28 + 1, none⟩ (.int .i64 7) = x) := ⟨_, rfl⟩
      have hst : Hid ((∀ i, i < n → ∀ j, j < 28 → w6.cell? ⟨g, i * 28 + j, none⟩ = (if i < k + 1 then tickCs 7 else tickCs 0)[j]?) ∧ (∀ o, w6.frozen? ⟨g, o, none⟩ = false) ∧ Below g v1 w6 ∧ g < w6.heap.size) := by
        rw [← hw6.out]
        refine ⟨fun i hi j hj => ?_, fun o => ?_, hB.setCell (Nat.le_refl _) _, by simpa [World.setCell] using hS⟩
        · by_cases hij : i = k ∧ j = 1
          · obtain ⟨rfl, rfl⟩ := hij
            rw [if_pos (by omega), World.cell?_setCell_same' wr _ _ (by rw [c1]; rfl)]
            rfl
          · rw [World.cell?_setCell_other wr ⟨g, k * 28 + 1, none⟩ ⟨g, i * 28 + j, none⟩ _ (fun e => by simp only [Addr.mk.injEq, and_true, true_and] at e; omega), hC i hi j hj]
            by_cases h1 : i < k
            · rw [if_pos h1, if_pos (by omega)]
            · by_cases h2 : i = k
              · rw [if_neg h1, if_pos (by omega)]
                exact tick_other 0 7 j (by omega)
              · rw [if_neg h1, if_neg (by omega)]
        · have := hF o
          unfold World.frozen? at this ⊢
          simp only [World.setCell, Array.getElem?_modify, if_true] at this ⊢
          cases ho : wr.heap[g]? with
          | none => simp [ho] at this ⊢
          | some ob =>
            rw [ho] at this
            cases ob <;> simp_all
      clear hI hC hF hB hS
      go_wp2
      go_roundw
      case rel => exact ⟨k + 1, by omega, by go_num, by rw [hw6.out]; exact hst⟩
      case measure => simp [intOf]; omega
    · have : k = n := by omega
      subst this
      obtain ⟨hC, hF, hB, hS⟩ := hI.out
      obtain ⟨T, hT⟩ : ∃ x, Hid (List.replicate k (tick 7) = x) := ⟨_, rfl⟩
      have hlT : T.length = k := by rw [← hT.out, List.length_replicate]
      have hmT : ∀ e ∈ T, e = tick 7 := fun e he => by rw [← hT.out] at he; exact List.eq_of_mem_replicate he
      have RW : RowsIn (EventC wr) 28 wr (some ⟨g, 0, none⟩) k k T := by
        refine ⟨hlT, fun h => (by cases h), ⟨Nat.le_refl _, by unfold maxLen; omega⟩, fun i hi => ⟨g, 0, tickCs 7, rfl, hS, rfl, fun j hj => ?_, ?_⟩⟩
        · have := hC i (by omega) j hj
          rw [if_pos (by omega)] at this
          rw [Nat.zero_add]
          exact this
        · rw [hmT _ (List.getElem_mem _)]
          exact tickC wr 7 ⟨by omega, by omega⟩
      have hok : ∀ e ∈ T, evB e = true ∧ e.Wf := fun e he => by rw [hmT e he]; exact tick_ok (by omega)
      have hns : ∀ e ∈ T, ∀ m ∈ evNs e, IsU64 m := fun e he m hm => by
        rw [hmT e he, tick_ns (by omega)] at hm
        simp only [List.mem_cons, List.not_mem_nil, or_false] at hm
        rcases hm with rfl | rfl
        · exact ⟨by omega, by omega⟩
        · exact ⟨by omega, by omega⟩
      have HB8 := hide (bytes8_of hok hns)
      have HRW := hide RW
      have HOK := hide hok
      have hev : Hid (evsB T = false) := show _ = _ by rw [evsB, decide_eq_false (by omega)]; rfl
      have hdec : Hid (rDec (bytesOf T) 4096 [] ⟨0, false⟩ = ([], 65536, true)) := show _ = _ by
        rw [dec_many (bs := bytesOf T) T [] 4096 0 rfl (Nat.zero_le _) (by omega) hok, ← hT.out, many_len k (by omega)]
      have HBW : Hid (Below w.heap.size w wr) := HB1.out.trans (hB.mono hs1)
      clear hI hC hF hB hS RW hok hns hmT hlT I0
      go_wp2_with fail
      refine (enc_any T _ _ _ _ HRW.out).mono ?_
      rintro r v2 ⟨ao2, n2, d2, rfl, _, R2, hb⟩
      rw [hev.out]
      rw [encBs_no hev.out] at R2
      obtain rfl : n2 = 0 := R2.len.symm
      have HB2 := hide (HBW.out.trans (hb.mono HBW.out.size))
      have HRW2 := hide (HRW.out.mono hb fun cs v h => h.below hb)
      clear hb R2
      go_wp2_with fail
      refine (lbytes_any T _ _ _ _ HRW2.out (fun e he => (HOK.out e he).1) (by omega)).mono ?_
      rintro r v3 ⟨ao3, n3, d3, rfl, hn3, _, own3, hb⟩
      obtain ⟨ax, dx, ex, R3⟩ := RowIn.ofOwned own3
      cases ex
      have HB3 := hide (HB2.out.trans (hb.mono HB2.out.size))
      have HR3 := hide R3
      clear hb own3 R3 hn3
      go_wp2_with fail
      refine (dec_any (bytesOf T) _ _ _ _ HR3.out HB8.out).mono ?_
      rintro r v4 ⟨ao4, n4, d4, rfl, R4, hb⟩
      rw [hdec.out] at R4 ⊢
      dsimp only at R4 ⊢
      obtain rfl : n4 = 0 := R4.len.symm
      have HB4 := hide (HB3.out.trans (hb.mono HB3.out.size))
      have hne : errV true = .iface 48 (.int .i64 1) := rfl
      rw [hne]
      have HG4 := hide ((HB4.out.cell (p := ⟨0, 0, none⟩) hlt0).trans HG.out)
      have h6 : ((65536 : Nat) : Int) = 65536 := rfl
      rw [h6]
      clear hb R4 hne h6
      go_wp2_with (go_at_call 10; refine (number_any _ HG4.out).mono ?_; rintro r v5 ⟨rfl, hb5⟩)
      go_ret
      exact ⟨rfl, HB4.out.trans (hb5.mono HB4.out.size)⟩
end Go.Proofs.YtaoapconbljkhaaDoor

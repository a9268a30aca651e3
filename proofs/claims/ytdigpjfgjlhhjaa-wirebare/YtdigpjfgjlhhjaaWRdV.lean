/- Contract of wire's reader: a vote is read. -/
import Derived.Test.YtdigpjfgjlhhjaaWExt

namespace Go.Proofs.Ytdigpjfgjlhhjaa

open Go.ChangeShapes Go.WideShapes Go.ChangeAt Go.RowKit

set_option linter.unusedVariables false

/-- who votes: up to so many numbers; at a bad one it ends -/
def rWho (bs : List Int) : Nat → List Int → St → List Int × St
  | 0, acc, s => (acc, s)
  | k + 1, acc, s => if (rSmall bs 4095 s).2.bad = true then (acc ++ [(rSmall bs 4095 s).1], (rSmall bs 4095 s).2) else rWho bs k (acc ++ [(rSmall bs 4095 s).1]) (rSmall bs 4095 s).2
/-- a vote is read -/
def rVote (bs : List Int) (s : St) : Vt × St :=
  let x1 := rSmall bs 1099511627776 s
  let x2 := rWhole bs x1.2
  let x3 := rPoint bs x2.2
  let x4 := rPoint bs x3.2
  let x5 := rSmall bs 4096 x4.2
  let f := rWho bs x5.1.toNat [] x5.2
  (⟨x1.1, x2.1, x3.1.1, x3.1.2, x4.1.1, x4.1.2, f.1⟩, f.2)
theorem rSmall_b {bs : List Int} (h : Bytes8 bs) {m : Int} (hm : 0 ≤ m) (s : St) : 0 ≤ (rSmall bs m s).1 ∧ (rSmall bs m s).1 ≤ m := by
  unfold rSmall
  split
  · exact ⟨Int.le_refl _, hm⟩
  · cases hn : numAt bs s.pos with
    | none => exact ⟨Int.le_refl _, hm⟩
    | some v =>
      have := (numAt_b h hn).1
      simp only
      split
      · exact ⟨this, by assumption⟩
      · exact ⟨Int.le_refl _, hm⟩
theorem rWhole_b {bs : List Int} (h : Bytes8 bs) (s : St) : IsU64 (rWhole bs s).1 := by
  unfold rWhole
  split
  · exact ⟨by omega, by omega⟩
  · cases hn : numAt bs s.pos with
    | none => exact ⟨by simp, by simp⟩
    | some v => exact numAt_b h hn
theorem rSmall_i {bs : List Int} (h : Bytes8 bs) {m : Int} (hm : 0 ≤ m ∧ m ≤ 9223372036854775807) (s : St) : IsI64 (rSmall bs m s).1 := by
  have := rSmall_b h hm.1 s
  exact ⟨by omega, by omega⟩

theorem infoInt : (Try.prog.info? 3).map (fun i => (i.zero, i.size, i.bytes)) = some (some (.int .i64 0), 1, 8) := by kernel_rfl

set_option maxHeartbeats 4000000 in
theorem rdVote_any (r : Nat) (ab : Option Addr) (n c : Nat) (bs : List Int) (s : St) (w : World) (h : Rd r w ab n c bs s) :
    Calls Try.prog 27 #[.pointer (some ⟨r, 0, none⟩)] w fun e w' => ∃ cs, e = .returned (.agg cs.toArray) ∧ VoteC (filt tyI w.heap.size w') cs (rVote bs s).1 ∧ Rd r w' ab n c bs (rVote bs s).2 ∧ Apart r w w' := by
  obtain ⟨x1, e1⟩ : ∃ x, Hid (rSmall bs 1099511627776 s = x) := ⟨_, rfl⟩
  obtain ⟨x2, e2⟩ : ∃ x, Hid (rWhole bs x1.2 = x) := ⟨_, rfl⟩
  obtain ⟨x3, e3⟩ : ∃ x, Hid (rPoint bs x2.2 = x) := ⟨_, rfl⟩
  obtain ⟨x4, e4⟩ : ∃ x, Hid (rPoint bs x3.2 = x) := ⟨_, rfl⟩
  obtain ⟨x5, e5⟩ : ∃ x, Hid (rSmall bs 4096 x4.2 = x) := ⟨_, rfl⟩
  have hx5 := rSmall_b h.b8 (m := 4096) (by omega) x4.2
  rw [e5.out] at hx5
  obtain ⟨N, hN⟩ : ∃ N : Nat, Hid (x5.1 = (N : Int)) := ⟨x5.1.toNat, show x5.1 = (x5.1.toNat : Int) by omega⟩
  rw [hN.out] at hx5
  have hN2 : (N : Int) ≤ 4096 := hx5.2
  obtain ⟨F, hF⟩ : ∃ x, Hid (rWho bs N [] x5.2 = x) := ⟨_, rfl⟩
  have HV : Hid (rVote bs s = (⟨x1.1, x2.1, x3.1.1, x3.1.2, x4.1.1, x4.1.2, F.1⟩, F.2)) := by
    show rVote bs s = _
    have : x5.1.toNat = N := by rw [hN.out]; simp
    rw [← hF.out, ← this, ← e5.out, ← e4.out, ← e3.out, ← e2.out, ← e1.out]
    rfl
  have B1 : Hid (IsI64 x1.1) := by rw [← e1.out]; exact rSmall_i h.b8 (by omega) _
  have B2 : Hid (IsU64 x2.1) := by rw [← e2.out]; exact rWhole_b h.b8 _
  have B3 : Hid (IsI64 x3.1.1) := by rw [← e3.out]; exact rSmall_i h.b8 (by omega) _
  have B3' : Hid (IsU64 x3.1.2) := by rw [← e3.out]; exact rWhole_b h.b8 _
  have B4 : Hid (IsI64 x4.1.1) := by rw [← e4.out]; exact rSmall_i h.b8 (by omega) _
  have B4' : Hid (IsU64 x4.1.2) := by rw [← e4.out]; exact rWhole_b h.b8 _
  have BS : Hid (∀ s : St, IsI64 (rSmall bs 4095 s).1) := fun s => rSmall_i h.b8 (by omega) _
  have H := hide h
  have hrlt := h.lt
  have hrne : w.heap.size ≠ r := by omega
  clear h hx5
  obtain ⟨i0, hi, hz0, hz1, hz2⟩ := info_parts infoInt
  go_enter Try.func27, Try.ntmps27
  go_wp2_with fail
  refine (rdSmall_any r ab n c bs s 1099511627776 _ (H.out.alloc _) (by omega)).mono ?_
  rintro e w1 ⟨rfl, hr1, hA1⟩
  rw [e1.out] at hr1 ⊢
  have O1 := hide ((hA1.block w.heap.size (by simp) hrne).trans (heap_alloc_new _ _))
  have hA1' := ((Apart.refl r w).alloc _).trans hA1
  have hsz1 := hA1.size
  simp at hsz1
  have R1 := hide hr1
  have A1 := hide hA1'
  clear hr1 hA1 hA1'
  go_wp2_with fail
  refine (rdWhole_any r ab n c bs x1.2 _ R1.out).mono ?_
  rintro e w2 ⟨rfl, hr2, hA2⟩
  rw [e2.out] at hr2 ⊢
  have O2 := hide ((hA2.block w.heap.size (by omega) hrne).trans O1.out)
  have A2 := hide (A1.out.trans hA2)
  have hsz2 := hA2.size
  have R2 := hide hr2
  clear hr2 hA2 R1 O1 A1
  go_wp2_with fail
  refine (rdPoint_any r ab n c bs x2.2 _ R2.out).mono ?_
  rintro e w3 ⟨rfl, hr3, hA3⟩
  rw [e3.out] at hr3 ⊢
  have O3 := hide ((hA3.block w.heap.size (by omega) hrne).trans O2.out)
  have A3 := hide (A2.out.trans hA3)
  have hsz3 := hA3.size
  have R3 := hide hr3
  clear hr3 hA3 R2 O2 A2
  go_wp2_with fail
  refine (rdPoint_any r ab n c bs x3.2 _ R3.out).mono ?_
  rintro e w4 ⟨rfl, hr4, hA4⟩
  rw [e4.out] at hr4 ⊢
  have O4 := hide ((hA4.block w.heap.size (by omega) hrne).trans O3.out)
  have A4 := hide (A3.out.trans hA4)
  have hsz4 := hA4.size
  have R4 := hide hr4
  clear hr4 hA4 R3 O3 A3
  obtain ⟨h3, hh3⟩ : ∃ x, Hid (w4.heap.size = x) := ⟨_, rfl⟩
  go_wp2_with fail
  rw [hh3.out]
  refine (rdSmall_any r ab n c bs x4.2 4096 _ (R4.out.alloc _) (by omega)).mono ?_
  rintro e w5 ⟨rfl, hr5, hA5⟩
  rw [e5.out] at hr5 ⊢
  rw [hN.out]
  have hl3 : w.heap.size < h3 := by rw [← hh3.out]; omega
  have O5 := hide (((hA5.block w.heap.size (by simp; omega) hrne).trans (Below.heap_alloc _ _ _ (by omega))).trans O4.out)
  have hv5 := (hA5.block w4.heap.size (by simp) (by omega)).trans (heap_alloc_new _ _)
  rw [hh3.out] at hv5
  have V5 := hide hv5
  have A5 := hide ((A4.out.alloc _).trans hA5)
  have hsz5 : h3 + 1 ≤ w5.heap.size := by have := hA5.size; simp at this; rw [← hh3.out]; omega
  have R5 := hide hr5
  have hr3 : r < h3 := by omega
  clear hr5 hA5 R4 O4 A4 hv5 hsz1 hsz2 hsz3 hsz4
  go_wp2
  go_loopw [15] (fun i wr => ∃ (k : Nat) (acc : List Int) (st : St) (g : Option Addr) (d : Nat), k ≤ N ∧ i = .int .i64 k ∧
      Hid (rWho bs (N - k) acc st = F ∧ acc.length = k ∧ (∀ x ∈ acc, IsI64 x) ∧ wr.heap[h3]? = some (.cells ([.int .i64 x1.1, .int .u64 x2.1, .int .i64 x3.1.1, .int .u64 x3.1.2, .int .i64 x4.1.1, .int .u64 x4.1.2, .slice g k d]).toArray 34 (0, 0)) ∧ wr.heap[w.heap.size]? = some (.cells #[.int .i64 0, .int .u64 0, .int .i64 0, .int .u64 0, .int .i64 0, .int .u64 0, .slice none 0 0] 34 (0, 0)) ∧ wr.ownsRow (h3 + 1) 3 1 (.slice g k d) k (acc.map (Value.int .i64)) ∧ Rd r wr ab n c bs st ∧ Apart r w wr ∧ h3 + 1 ≤ wr.heap.size)) (fun i _ => N - (intOf i).toNat)
  case atStart => exact ⟨0, [], x5.2, none, 0, Nat.zero_le _, rfl, hide ⟨hF.out, rfl, by simp, V5.out, O5.out, World.ownsRow_nil _ _ _ _, R5.out, A5.out, hsz5⟩⟩
  case round =>
    obtain ⟨k, acc, st, g, d, hk, rfl, hI⟩ := hrel
    by_cases hlt : k < N
    · obtain ⟨hw', hal, hacc, ob3, ob2, hown, hrd, hAp, hsr⟩ := hI.out
      have cc : wr.cell? ⟨h3, 6, none⟩ = some (.slice g k d) := cell_of_row wr h3 6 _ _ _ ob3
      clear hI
      go_wp2
      refine wp_region_noPanic ?_
      refine wp_region_held_drew (S := fun _ => True) (by kernel_rfl) trivial (fun hHeld => ?_)
      refine take_set (i := 0) (v := .pointer (some ⟨h3, 6, none⟩)) rfl rfl (by kernel_rfl) (by kernel_rfl) (by kernel_rfl) (fun _ _ _ h => h) (Or.inl ⟨by kernel_rfl, fun w' hSw => ?_⟩) hHeld ?_
      · go_simp
      simp only [List.set_cons_succ, List.set_cons_zero]
      refine take_set (i := 2) (v := .pointer (some ⟨r, 0, none⟩)) rfl rfl (by kernel_rfl) (by kernel_rfl) (by kernel_rfl) (fun _ _ _ h => h) (Or.inl ⟨by kernel_rfl, fun w' hSw => ?_⟩) hHeld ?_
      · go_simp
      simp only [List.set_cons_succ, List.set_cons_zero]
      refine wpAnyH_ready (rs := [1, 3]) (by kernel_rfl) (by simp) ?_
      refine AllReadyH.cons (o := _) rfl (fun K hK => ?_) (AllReadyH.cons (o := _) rfl (fun K hK => ?_) AllReadyH.nil)
      · go_simp
        refine hK.out _ _ (trivial) (fun hHeld => ?_)
        clear hK K
        refine wpAnyH_ready (rs := [3]) (by kernel_rfl) (by simp) ?_
        refine AllReadyH.cons (o := _) rfl (fun K hK => ?_) AllReadyH.nil
        go_simp
        refine (rdSmall_any r ab n c bs st 4095 _ hrd.drew (by omega)).mono ?_
        rintro e v1 ⟨rfl, hr1, hA1⟩
        have hsv := hA1.size
        have hsv' : wr.heap.size ≤ v1.heap.size := hsv
        have ob3 := (hA1.block h3 (by show h3 < wr.heap.size; omega) (by omega)).trans ob3
        have ob2 := (hA1.block w.heap.size (by show w.heap.size < wr.heap.size; omega) hrne).trans ob2
        clear cc
        refine hK.out _ _ (trivial) (fun hHeld => ?_)
        clear hK K
        refine wpAnyH_ready (rs := [4]) (by kernel_rfl) (by simp) ?_
        refine AllReadyH.cons (o := _) rfl (fun K hK => ?_) AllReadyH.nil
        go_simp
        refine hK.out _ _ (trivial) (fun hHeld => ?_)
        clear hK K
        refine wpAnyH_ready (rs := [5]) (by kernel_rfl) (by simp) ?_
        refine AllReadyH.cons (o := _) rfl (fun K hK => ?_) AllReadyH.nil
        refine step_append_rows rfl (.tmp 18) (.tmp 21) 32 rfl (h3 + 1) 3 i0 .i64 (.int .i64 0) 8 Try.underlying32 hi hz0 hz1 hz2 rfl (.slice g k d) k acc rfl ((owns_apart ((owns_below hown (Below.refl _ _).drew)) hA1 (by omega)).alloc _) (some ⟨v1.heap.size, 0, none⟩) 1 1 [_] rfl (RowIn.lit .i64 _ _ _ _ _ _ _ [_] rfl rfl rfl (by simp [maxLen])) (by unfold maxLen; omega) (by omega) (by simp; omega) ?_
        intro ao5 d5 v5 hown5 hgrow5
        have hlt5 : ∀ j, (Value.slice g k d).ownBlock = some j → h3 + 1 ≤ j := fun j hj => (hown.lt j hj).1
        have hb5 : Below (h3 + 1) v1 v5 := ((Below.refl _ _).alloc (by omega) _).grown hgrow5 (by simp; omega) hlt5
        have ob3' := (hb5.block h3 (by omega)).trans ob3
        have cc5 : v5.cell? ⟨h3, 6, none⟩ = some (.slice g k d) := cell_of_row v5 h3 6 _ _ _ ob3'
        have fz5 : v5.frozen? ⟨h3, 6, none⟩ = false := by unfold World.frozen?; rw [ob3']; simp
        refine hK.out _ _ (trivial) (fun hHeld => ?_)
        clear hK K
        refine take_set (i := 6) (v := .pointer (some ⟨h3, 6, none⟩)) rfl rfl (by kernel_rfl) (by kernel_rfl) (by kernel_rfl) (fun _ _ _ h => h) (Or.inl ⟨by kernel_rfl, fun w' hSw => ?_⟩) hHeld ?_
        · go_simp
        simp only [List.set_cons_succ, List.set_cons_zero]
        refine wpAnyH_ready (rs := [7]) (by kernel_rfl) (by simp) ?_
        refine AllReadyH.cons (o := _) rfl (fun K hK => ?_) AllReadyH.nil
        go_simp
        refine hK.out _ _ (trivial) (fun hHeld => ?_)
        clear hK K
        refine wpAnyH_done (by kernel_rfl) ?_ _
        refine NoPanic.normal ?_
        obtain ⟨v6, hv6⟩ : ∃ x, Hid (v5.setCell ⟨h3, 6, none⟩ (.slice ao5 (k + 1) d5) = x) := ⟨_, rfl⟩
        rw [hv6.out]
        have hA6 : Apart h3 v5 v6 := by rw [← hv6.out]; exact (Apart.refl _ _).set _ _
        have X6 : Hid (v6.heap[h3]? = some (.cells ([.int .i64 x1.1, .int .u64 x2.1, .int .i64 x3.1.1, .int .u64 x3.1.2, .int .i64 x4.1.1, .int .u64 x4.1.2, .slice ao5 (k + 1) d5]).toArray 34 (0, 0))) := by rw [← hv6.out]; exact set_obj ob3' 6 _
        have hb6 : Below w.heap.size v1 v6 := (hb5.mono (by omega)).trans (hA6.old _ (by have := hb5.size; omega) (by omega))
        have O6 : Hid (v6.heap[w.heap.size]? = some (.cells #[.int .i64 0, .int .u64 0, .int .i64 0, .int .u64 0, .int .i64 0, .int .u64 0, .slice none 0 0] 34 (0, 0))) := show _ = _ by rw [hA6.block w.heap.size (by have := hb5.size; omega) (by omega), hb5.block w.heap.size (by omega)]; exact ob2
        have W6 : Hid (v6.ownsRow (h3 + 1) 3 1 (.slice ao5 (k + 1) d5) (k + 1) ((acc ++ [(rSmall bs 4095 st).1]).map (Value.int .i64))) := owns_apart hown5 hA6 (by omega)
        have R6 : Hid (Rd r v6 ab n c bs (rSmall bs 4095 st).2) := hr1.keep H.out hb6
        have A6 : Hid (Apart r w v6) := ((hAp.drew).trans hA1).keep hb6
        have hs6 : h3 + 1 ≤ v6.heap.size := by have := hb5.size; have := hA6.size; omega
        have hq6 := R6.out.cells.2.2
        have BA : Hid (∀ x ∈ acc ++ [(rSmall bs 4095 st).1], IsI64 x) := fun x hx => by
          rcases List.mem_append.1 hx with h | h
          · exact hacc x h
          · rw [List.mem_singleton.1 h]; exact BS.out _
        have hlen6 : Hid ((acc ++ [(rSmall bs 4095 st).1]).length = k + 1) := show _ = _ by rw [List.length_append, hal]; rfl
        have hS6 : Hid (rWho bs (N - k) acc st = if (rSmall bs 4095 st).2.bad = true then (acc ++ [(rSmall bs 4095 st).1], (rSmall bs 4095 st).2) else rWho bs (N - (k + 1)) (acc ++ [(rSmall bs 4095 st).1]) (rSmall bs 4095 st).2) := show _ = _ by
          obtain ⟨q, hq⟩ : ∃ q, N - k = q + 1 := ⟨N - k - 1, by omega⟩
          rw [hq, show N - (k + 1) = q by omega]
          rfl
        rw [hw'] at hS6
        obtain ⟨⟨y, st'⟩, hy⟩ : ∃ x, Hid (rSmall bs 4095 st = x) := ⟨_, rfl⟩
        rw [hy.out] at W6 R6 hq6 BA hlen6 hS6
        dsimp only at W6 R6 hq6 BA hlen6 hS6
        clear hb5 hb6 hA6 hown5 hgrow5 hlt5 cc5 fz5 ob3' hown hA1 hr1 ob3 ob2 hAp hrd hacc hw'
        obtain ⟨bd, hbd⟩ : ∃ x, Hid (st'.bad = x) := ⟨_, rfl⟩
        rw [hbd.out] at hq6 hS6
        cases bd
        · rw [if_neg (by simp)] at hS6
          go_wp2
          go_roundw
          case rel => exact ⟨k + 1, acc ++ [y], st', ao5, d5, by omega, by go_num, hide ⟨hS6.out.symm, hlen6.out, BA.out, X6.out, O6.out, W6.out, R6.out, A6.out, hs6⟩⟩
          case measure => simp [intOf]; omega
        · rw [if_pos rfl] at hS6
          have LD := hide (load_obj (C := ([.int .i64 x1.1, .int .u64 x2.1, .int .i64 x3.1.1, .int .u64 x3.1.2, .int .i64 x4.1.1, .int .u64 x4.1.2, .slice ao5 (k + 1) d5]).toArray) Try.underlying34 infoVt rfl X6.out)
          obtain ⟨w9, hrun, hx9, hA9⟩ := store_obj (P := Try.prog) (cs := [.int .i64 x1.1, .int .u64 x2.1, .int .i64 x3.1.1, .int .u64 x3.1.2, .int .i64 x4.1.1, .int .u64 x4.1.2, .slice ao5 (k + 1) d5]) infoVt rfl rfl (by simp [Value.oneCell']) O6.out
          have RUN := hide hrun
          have X9 := hide hx9
          have A9 := hide hA9
          clear hrun hx9 hA9
          go_wp2_with (first
            | (refine wpList_load_at 34 (.tmp 3) rfl rfl (.pointer (some ⟨h3, 0, none⟩)) rfl (.agg _) LD.out ?_)
            | (refine wpList_store_at 34 (.tmp 2) (.tmp 29) rfl rfl (.pointer (some ⟨w.heap.size, 0, none⟩)) (.agg _) rfl rfl _ RUN.out ?_))
          obtain ⟨az, cz, ez, hz⟩ := filt_own (p := tyI) (B := w.heap.size) (owns_apart W6.out A9.out (by omega)) rfl (by omega)
          cases ez
          refine ret_struct rfl rfl X9.out Try.underlying34 infoVt rfl ⟨_, rfl, ?_, ?_, ?_⟩
          · rw [HV.out, hS6.out]
            exact ⟨⟨B1.out, B2.out, B3.out, B3'.out, B4.out, B4'.out, BA.out⟩, _, _, _, rfl, hz⟩
          · rw [HV.out, hS6.out]
            exact R6.out.keep H.out (A9.out.old _ (by have := A6.out.size; omega) (Nat.le_refl _))
          · exact A6.out.keep (A9.out.old _ (by have := A6.out.size; omega) (Nat.le_refl _))
      · go_simp
        refine (rdSmall_any r ab n c bs st 4095 _ hrd.drew (by omega)).mono ?_
        rintro e v1 ⟨rfl, hr1, hA1⟩
        have hsv := hA1.size
        have hsv' : wr.heap.size ≤ v1.heap.size := hsv
        have ob3 := (hA1.block h3 (by show h3 < wr.heap.size; omega) (by omega)).trans ob3
        have ob2 := (hA1.block w.heap.size (by show w.heap.size < wr.heap.size; omega) hrne).trans ob2
        clear cc
        have cc : v1.cell? ⟨h3, 6, none⟩ = some (.slice g k d) := cell_of_row v1 h3 6 _ _ _ ob3
        refine hK.out _ _ (trivial) (fun hHeld => ?_)
        clear hK K
        refine wpAnyH_ready (rs := [1, 4]) (by kernel_rfl) (by simp) ?_
        refine AllReadyH.cons (o := _) rfl (fun K hK => ?_) (AllReadyH.cons (o := _) rfl (fun K hK => ?_) AllReadyH.nil)
        · go_simp
          clear cc
          refine hK.out _ _ (trivial) (fun hHeld => ?_)
          clear hK K
          refine wpAnyH_ready (rs := [4]) (by kernel_rfl) (by simp) ?_
          refine AllReadyH.cons (o := _) rfl (fun K hK => ?_) AllReadyH.nil
          go_simp
          refine hK.out _ _ (trivial) (fun hHeld => ?_)
          clear hK K
          refine wpAnyH_ready (rs := [5]) (by kernel_rfl) (by simp) ?_
          refine AllReadyH.cons (o := _) rfl (fun K hK => ?_) AllReadyH.nil
          refine step_append_rows rfl (.tmp 18) (.tmp 21) 32 rfl (h3 + 1) 3 i0 .i64 (.int .i64 0) 8 Try.underlying32 hi hz0 hz1 hz2 rfl (.slice g k d) k acc rfl ((owns_apart ((owns_below hown (Below.refl _ _).drew)) hA1 (by omega)).alloc _) (some ⟨v1.heap.size, 0, none⟩) 1 1 [_] rfl (RowIn.lit .i64 _ _ _ _ _ _ _ [_] rfl rfl rfl (by simp [maxLen])) (by unfold maxLen; omega) (by omega) (by simp; omega) ?_
          intro ao5 d5 v5 hown5 hgrow5
          have hlt5 : ∀ j, (Value.slice g k d).ownBlock = some j → h3 + 1 ≤ j := fun j hj => (hown.lt j hj).1
          have hb5 : Below (h3 + 1) v1 v5 := ((Below.refl _ _).alloc (by omega) _).grown hgrow5 (by simp; omega) hlt5
          have ob3' := (hb5.block h3 (by omega)).trans ob3
          have cc5 : v5.cell? ⟨h3, 6, none⟩ = some (.slice g k d) := cell_of_row v5 h3 6 _ _ _ ob3'
          have fz5 : v5.frozen? ⟨h3, 6, none⟩ = false := by unfold World.frozen?; rw [ob3']; simp
          refine hK.out _ _ (trivial) (fun hHeld => ?_)
          clear hK K
          refine take_set (i := 6) (v := .pointer (some ⟨h3, 6, none⟩)) rfl rfl (by kernel_rfl) (by kernel_rfl) (by kernel_rfl) (fun _ _ _ h => h) (Or.inl ⟨by kernel_rfl, fun w' hSw => ?_⟩) hHeld ?_
          · go_simp
          simp only [List.set_cons_succ, List.set_cons_zero]
          refine wpAnyH_ready (rs := [7]) (by kernel_rfl) (by simp) ?_
          refine AllReadyH.cons (o := _) rfl (fun K hK => ?_) AllReadyH.nil
          go_simp
          refine hK.out _ _ (trivial) (fun hHeld => ?_)
          clear hK K
          refine wpAnyH_done (by kernel_rfl) ?_ _
          refine NoPanic.normal ?_
          obtain ⟨v6, hv6⟩ : ∃ x, Hid (v5.setCell ⟨h3, 6, none⟩ (.slice ao5 (k + 1) d5) = x) := ⟨_, rfl⟩
          rw [hv6.out]
          have hA6 : Apart h3 v5 v6 := by rw [← hv6.out]; exact (Apart.refl _ _).set _ _
          have X6 : Hid (v6.heap[h3]? = some (.cells ([.int .i64 x1.1, .int .u64 x2.1, .int .i64 x3.1.1, .int .u64 x3.1.2, .int .i64 x4.1.1, .int .u64 x4.1.2, .slice ao5 (k + 1) d5]).toArray 34 (0, 0))) := by rw [← hv6.out]; exact set_obj ob3' 6 _
          have hb6 : Below w.heap.size v1 v6 := (hb5.mono (by omega)).trans (hA6.old _ (by have := hb5.size; omega) (by omega))
          have O6 : Hid (v6.heap[w.heap.size]? = some (.cells #[.int .i64 0, .int .u64 0, .int .i64 0, .int .u64 0, .int .i64 0, .int .u64 0, .slice none 0 0] 34 (0, 0))) := show _ = _ by rw [hA6.block w.heap.size (by have := hb5.size; omega) (by omega), hb5.block w.heap.size (by omega)]; exact ob2
          have W6 : Hid (v6.ownsRow (h3 + 1) 3 1 (.slice ao5 (k + 1) d5) (k + 1) ((acc ++ [(rSmall bs 4095 st).1]).map (Value.int .i64))) := owns_apart hown5 hA6 (by omega)
          have R6 : Hid (Rd r v6 ab n c bs (rSmall bs 4095 st).2) := hr1.keep H.out hb6
          have A6 : Hid (Apart r w v6) := ((hAp.drew).trans hA1).keep hb6
          have hs6 : h3 + 1 ≤ v6.heap.size := by have := hb5.size; have := hA6.size; omega
          have hq6 := R6.out.cells.2.2
          have BA : Hid (∀ x ∈ acc ++ [(rSmall bs 4095 st).1], IsI64 x) := fun x hx => by
            rcases List.mem_append.1 hx with h | h
            · exact hacc x h
            · rw [List.mem_singleton.1 h]; exact BS.out _
          have hlen6 : Hid ((acc ++ [(rSmall bs 4095 st).1]).length = k + 1) := show _ = _ by rw [List.length_append, hal]; rfl
          have hS6 : Hid (rWho bs (N - k) acc st = if (rSmall bs 4095 st).2.bad = true then (acc ++ [(rSmall bs 4095 st).1], (rSmall bs 4095 st).2) else rWho bs (N - (k + 1)) (acc ++ [(rSmall bs 4095 st).1]) (rSmall bs 4095 st).2) := show _ = _ by
            obtain ⟨q, hq⟩ : ∃ q, N - k = q + 1 := ⟨N - k - 1, by omega⟩
            rw [hq, show N - (k + 1) = q by omega]
            rfl
          rw [hw'] at hS6
          obtain ⟨⟨y, st'⟩, hy⟩ : ∃ x, Hid (rSmall bs 4095 st = x) := ⟨_, rfl⟩
          rw [hy.out] at W6 R6 hq6 BA hlen6 hS6
          dsimp only at W6 R6 hq6 BA hlen6 hS6
          clear hb5 hb6 hA6 hown5 hgrow5 hlt5 cc5 fz5 ob3' hown hA1 hr1 ob3 ob2 hAp hrd hacc hw'
          obtain ⟨bd, hbd⟩ : ∃ x, Hid (st'.bad = x) := ⟨_, rfl⟩
          rw [hbd.out] at hq6 hS6
          cases bd
          · rw [if_neg (by simp)] at hS6
            go_wp2
            go_roundw
            case rel => exact ⟨k + 1, acc ++ [y], st', ao5, d5, by omega, by go_num, hide ⟨hS6.out.symm, hlen6.out, BA.out, X6.out, O6.out, W6.out, R6.out, A6.out, hs6⟩⟩
            case measure => simp [intOf]; omega
          · rw [if_pos rfl] at hS6
            have LD := hide (load_obj (C := ([.int .i64 x1.1, .int .u64 x2.1, .int .i64 x3.1.1, .int .u64 x3.1.2, .int .i64 x4.1.1, .int .u64 x4.1.2, .slice ao5 (k + 1) d5]).toArray) Try.underlying34 infoVt rfl X6.out)
            obtain ⟨w9, hrun, hx9, hA9⟩ := store_obj (P := Try.prog) (cs := [.int .i64 x1.1, .int .u64 x2.1, .int .i64 x3.1.1, .int .u64 x3.1.2, .int .i64 x4.1.1, .int .u64 x4.1.2, .slice ao5 (k + 1) d5]) infoVt rfl rfl (by simp [Value.oneCell']) O6.out
            have RUN := hide hrun
            have X9 := hide hx9
            have A9 := hide hA9
            clear hrun hx9 hA9
            go_wp2_with (first
              | (refine wpList_load_at 34 (.tmp 3) rfl rfl (.pointer (some ⟨h3, 0, none⟩)) rfl (.agg _) LD.out ?_)
              | (refine wpList_store_at 34 (.tmp 2) (.tmp 29) rfl rfl (.pointer (some ⟨w.heap.size, 0, none⟩)) (.agg _) rfl rfl _ RUN.out ?_))
            obtain ⟨az, cz, ez, hz⟩ := filt_own (p := tyI) (B := w.heap.size) (owns_apart W6.out A9.out (by omega)) rfl (by omega)
            cases ez
            refine ret_struct rfl rfl X9.out Try.underlying34 infoVt rfl ⟨_, rfl, ?_, ?_, ?_⟩
            · rw [HV.out, hS6.out]
              exact ⟨⟨B1.out, B2.out, B3.out, B3'.out, B4.out, B4'.out, BA.out⟩, _, _, _, rfl, hz⟩
            · rw [HV.out, hS6.out]
              exact R6.out.keep H.out (A9.out.old _ (by have := A6.out.size; omega) (Nat.le_refl _))
            · exact A6.out.keep (A9.out.old _ (by have := A6.out.size; omega) (Nat.le_refl _))
        · go_simp
          refine hK.out _ _ (trivial) (fun hHeld => ?_)
          clear hK K
          have cc2 : (v1.alloc (.cells #[.int .i64 (rSmall bs 4095 st).1] 3)).cell? ⟨h3, 6, none⟩ = some (.slice g k d) := ((below_alloc v1 _).cell (p := ⟨h3, 6, none⟩) (by show h3 < v1.heap.size; omega)).trans cc
          refine wpAnyH_ready (rs := [1]) (by kernel_rfl) (by simp) ?_
          refine AllReadyH.cons (o := _) rfl (fun K hK => ?_) AllReadyH.nil
          go_simp
          clear cc cc2
          refine hK.out _ _ (trivial) (fun hHeld => ?_)
          clear hK K
          refine wpAnyH_ready (rs := [5]) (by kernel_rfl) (by simp) ?_
          refine AllReadyH.cons (o := _) rfl (fun K hK => ?_) AllReadyH.nil
          refine step_append_rows rfl (.tmp 18) (.tmp 21) 32 rfl (h3 + 1) 3 i0 .i64 (.int .i64 0) 8 Try.underlying32 hi hz0 hz1 hz2 rfl (.slice g k d) k acc rfl ((owns_apart ((owns_below hown (Below.refl _ _).drew)) hA1 (by omega)).alloc _) (some ⟨v1.heap.size, 0, none⟩) 1 1 [_] rfl (RowIn.lit .i64 _ _ _ _ _ _ _ [_] rfl rfl rfl (by simp [maxLen])) (by unfold maxLen; omega) (by omega) (by simp; omega) ?_
          intro ao5 d5 v5 hown5 hgrow5
          have hlt5 : ∀ j, (Value.slice g k d).ownBlock = some j → h3 + 1 ≤ j := fun j hj => (hown.lt j hj).1
          have hb5 : Below (h3 + 1) v1 v5 := ((Below.refl _ _).alloc (by omega) _).grown hgrow5 (by simp; omega) hlt5
          have ob3' := (hb5.block h3 (by omega)).trans ob3
          have cc5 : v5.cell? ⟨h3, 6, none⟩ = some (.slice g k d) := cell_of_row v5 h3 6 _ _ _ ob3'
          have fz5 : v5.frozen? ⟨h3, 6, none⟩ = false := by unfold World.frozen?; rw [ob3']; simp
          refine hK.out _ _ (trivial) (fun hHeld => ?_)
          clear hK K
          refine take_set (i := 6) (v := .pointer (some ⟨h3, 6, none⟩)) rfl rfl (by kernel_rfl) (by kernel_rfl) (by kernel_rfl) (fun _ _ _ h => h) (Or.inl ⟨by kernel_rfl, fun w' hSw => ?_⟩) hHeld ?_
          · go_simp
          simp only [List.set_cons_succ, List.set_cons_zero]
          refine wpAnyH_ready (rs := [7]) (by kernel_rfl) (by simp) ?_
          refine AllReadyH.cons (o := _) rfl (fun K hK => ?_) AllReadyH.nil
          go_simp
          refine hK.out _ _ (trivial) (fun hHeld => ?_)
          clear hK K
          refine wpAnyH_done (by kernel_rfl) ?_ _
          refine NoPanic.normal ?_
          obtain ⟨v6, hv6⟩ : ∃ x, Hid (v5.setCell ⟨h3, 6, none⟩ (.slice ao5 (k + 1) d5) = x) := ⟨_, rfl⟩
          rw [hv6.out]
          have hA6 : Apart h3 v5 v6 := by rw [← hv6.out]; exact (Apart.refl _ _).set _ _
          have X6 : Hid (v6.heap[h3]? = some (.cells ([.int .i64 x1.1, .int .u64 x2.1, .int .i64 x3.1.1, .int .u64 x3.1.2, .int .i64 x4.1.1, .int .u64 x4.1.2, .slice ao5 (k + 1) d5]).toArray 34 (0, 0))) := by rw [← hv6.out]; exact set_obj ob3' 6 _
          have hb6 : Below w.heap.size v1 v6 := (hb5.mono (by omega)).trans (hA6.old _ (by have := hb5.size; omega) (by omega))
          have O6 : Hid (v6.heap[w.heap.size]? = some (.cells #[.int .i64 0, .int .u64 0, .int .i64 0, .int .u64 0, .int .i64 0, .int .u64 0, .slice none 0 0] 34 (0, 0))) := show _ = _ by rw [hA6.block w.heap.size (by have := hb5.size; omega) (by omega), hb5.block w.heap.size (by omega)]; exact ob2
          have W6 : Hid (v6.ownsRow (h3 + 1) 3 1 (.slice ao5 (k + 1) d5) (k + 1) ((acc ++ [(rSmall bs 4095 st).1]).map (Value.int .i64))) := owns_apart hown5 hA6 (by omega)
          have R6 : Hid (Rd r v6 ab n c bs (rSmall bs 4095 st).2) := hr1.keep H.out hb6
          have A6 : Hid (Apart r w v6) := ((hAp.drew).trans hA1).keep hb6
          have hs6 : h3 + 1 ≤ v6.heap.size := by have := hb5.size; have := hA6.size; omega
          have hq6 := R6.out.cells.2.2
          have BA : Hid (∀ x ∈ acc ++ [(rSmall bs 4095 st).1], IsI64 x) := fun x hx => by
            rcases List.mem_append.1 hx with h | h
            · exact hacc x h
            · rw [List.mem_singleton.1 h]; exact BS.out _
          have hlen6 : Hid ((acc ++ [(rSmall bs 4095 st).1]).length = k + 1) := show _ = _ by rw [List.length_append, hal]; rfl
          have hS6 : Hid (rWho bs (N - k) acc st = if (rSmall bs 4095 st).2.bad = true then (acc ++ [(rSmall bs 4095 st).1], (rSmall bs 4095 st).2) else rWho bs (N - (k + 1)) (acc ++ [(rSmall bs 4095 st).1]) (rSmall bs 4095 st).2) := show _ = _ by
            obtain ⟨q, hq⟩ : ∃ q, N - k = q + 1 := ⟨N - k - 1, by omega⟩
            rw [hq, show N - (k + 1) = q by omega]
            rfl
          rw [hw'] at hS6
          obtain ⟨⟨y, st'⟩, hy⟩ : ∃ x, Hid (rSmall bs 4095 st = x) := ⟨_, rfl⟩
          rw [hy.out] at W6 R6 hq6 BA hlen6 hS6
          dsimp only at W6 R6 hq6 BA hlen6 hS6
          clear hb5 hb6 hA6 hown5 hgrow5 hlt5 cc5 fz5 ob3' hown hA1 hr1 ob3 ob2 hAp hrd hacc hw'
          obtain ⟨bd, hbd⟩ : ∃ x, Hid (st'.bad = x) := ⟨_, rfl⟩
          rw [hbd.out] at hq6 hS6
          cases bd
          · rw [if_neg (by simp)] at hS6
            go_wp2
            go_roundw
            case rel => exact ⟨k + 1, acc ++ [y], st', ao5, d5, by omega, by go_num, hide ⟨hS6.out.symm, hlen6.out, BA.out, X6.out, O6.out, W6.out, R6.out, A6.out, hs6⟩⟩
            case measure => simp [intOf]; omega
          · rw [if_pos rfl] at hS6
            have LD := hide (load_obj (C := ([.int .i64 x1.1, .int .u64 x2.1, .int .i64 x3.1.1, .int .u64 x3.1.2, .int .i64 x4.1.1, .int .u64 x4.1.2, .slice ao5 (k + 1) d5]).toArray) Try.underlying34 infoVt rfl X6.out)
            obtain ⟨w9, hrun, hx9, hA9⟩ := store_obj (P := Try.prog) (cs := [.int .i64 x1.1, .int .u64 x2.1, .int .i64 x3.1.1, .int .u64 x3.1.2, .int .i64 x4.1.1, .int .u64 x4.1.2, .slice ao5 (k + 1) d5]) infoVt rfl rfl (by simp [Value.oneCell']) O6.out
            have RUN := hide hrun
            have X9 := hide hx9
            have A9 := hide hA9
            clear hrun hx9 hA9
            go_wp2_with (first
              | (refine wpList_load_at 34 (.tmp 3) rfl rfl (.pointer (some ⟨h3, 0, none⟩)) rfl (.agg _) LD.out ?_)
              | (refine wpList_store_at 34 (.tmp 2) (.tmp 29) rfl rfl (.pointer (some ⟨w.heap.size, 0, none⟩)) (.agg _) rfl rfl _ RUN.out ?_))
            obtain ⟨az, cz, ez, hz⟩ := filt_own (p := tyI) (B := w.heap.size) (owns_apart W6.out A9.out (by omega)) rfl (by omega)
            cases ez
            refine ret_struct rfl rfl X9.out Try.underlying34 infoVt rfl ⟨_, rfl, ?_, ?_, ?_⟩
            · rw [HV.out, hS6.out]
              exact ⟨⟨B1.out, B2.out, B3.out, B3'.out, B4.out, B4'.out, BA.out⟩, _, _, _, rfl, hz⟩
            · rw [HV.out, hS6.out]
              exact R6.out.keep H.out (A9.out.old _ (by have := A6.out.size; omega) (Nat.le_refl _))
            · exact A6.out.keep (A9.out.old _ (by have := A6.out.size; omega) (Nat.le_refl _))
    · have : k = N := by omega
      subst this
      obtain ⟨hw', hal, hacc, ob3, ob2, hown, hrd, hAp, hsr⟩ := hI.out
      rw [Nat.sub_self] at hw'
      have hFe : F = (acc, st) := hw'.symm
      have HX3 := hide ob3
      have HX2 := hide ob2
      have HOW := hide hown
      have HRD := hide hrd
      have HAP := hide hAp
      have HFE := hide hFe
      have HACC := hide hacc
      clear ob3 ob2 hown hrd hAp hFe hacc hI hw'
      have LD := hide (load_obj (C := ([.int .i64 x1.1, .int .u64 x2.1, .int .i64 x3.1.1, .int .u64 x3.1.2, .int .i64 x4.1.1, .int .u64 x4.1.2, .slice g k d]).toArray) Try.underlying34 infoVt rfl HX3.out)
      obtain ⟨w9, hrun, hx9, hA9⟩ := store_obj (P := Try.prog) (cs := [.int .i64 x1.1, .int .u64 x2.1, .int .i64 x3.1.1, .int .u64 x3.1.2, .int .i64 x4.1.1, .int .u64 x4.1.2, .slice g k d]) infoVt rfl rfl (by simp [Value.oneCell']) HX2.out
      have RUN := hide hrun
      have X9 := hide hx9
      have A9 := hide hA9
      clear hrun hx9 hA9
      go_wp2_with (first
        | (refine wpList_load_at 34 (.tmp 3) rfl rfl (.pointer (some ⟨h3, 0, none⟩)) rfl (.agg _) LD.out ?_)
        | (refine wpList_store_at 34 (.tmp 2) (.tmp 29) rfl rfl (.pointer (some ⟨w.heap.size, 0, none⟩)) (.agg _) rfl rfl _ RUN.out ?_))
      obtain ⟨az, cz, ez, hz⟩ := filt_own (p := tyI) (B := w.heap.size) (owns_apart HOW.out A9.out (by omega)) rfl (by omega)
      cases ez
      refine ret_struct rfl rfl X9.out Try.underlying34 infoVt rfl ⟨_, rfl, ?_, ?_, ?_⟩
      · rw [HV.out, HFE.out]
        exact ⟨⟨B1.out, B2.out, B3.out, B3'.out, B4.out, B4'.out, HACC.out⟩, _, _, _, rfl, hz⟩
      · rw [HV.out, HFE.out]
        exact HRD.out.keep H.out (A9.out.old _ (by have := HAP.out.size; omega) (Nat.le_refl _))
      · exact HAP.out.keep (A9.out.old _ (by have := HAP.out.size; omega) (Nat.le_refl _))
end Go.Proofs.Ytdigpjfgjlhhjaa

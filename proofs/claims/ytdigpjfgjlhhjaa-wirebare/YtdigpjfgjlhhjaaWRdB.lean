/- Contract of wire's reader: a block is read. -/
import Derived.Test.YtdigpjfgjlhhjaaWRdP

namespace Go.Proofs.Ytdigpjfgjlhhjaa

open Go.ChangeShapes Go.WideShapes Go.ChangeAt Go.RowKit

set_option linter.unusedVariables false

def rVotes (bs : List Int) : Nat → List Vt → St → List Vt × St
  | 0, acc, s => (acc, s)
  | k + 1, acc, s => rVotes bs k (acc ++ [(rVote bs s).1]) (rVote bs s).2
def rProofs (bs : List Int) : Nat → List Pf → St → List Pf × St
  | 0, acc, s => (acc, s)
  | k + 1, acc, s => rProofs bs k (acc ++ [(rProof bs s).1]) (rProof bs s).2
/-- a block is read -/
def rBlock (bs : List Int) (s : St) : Bk × St :=
  let x1 := rWhole bs s
  let x2 := rWhole bs x1.2
  let x3 := rSmall bs 1099511627776 x2.2
  let x4 := rSmall bs 16 x3.2
  let x5 := rSmall bs 16 x4.2
  let f := rVotes bs x4.1.toNat [] x5.2
  let g := rProofs bs x5.1.toNat [] f.2
  (⟨x1.1, x2.1, x3.1, f.1, g.1⟩, g.2)
theorem infoVZ : (Try.prog.info? 34).map (fun i => (i.zero, i.size, i.bytes)) = some (some (.agg #[.int .i64 0, .int .u64 0, .int .i64 0, .int .u64 0, .int .i64 0, .int .u64 0, .slice none 0 0]), 7, 72) := by kernel_rfl
theorem infoPZ : (Try.prog.info? 36).map (fun i => (i.zero, i.size, i.bytes)) = some (some (.agg #[.int .i64 0, .int .u64 0, .int .i64 0, .int .u64 0, .int .i64 0, .int .u64 0, .slice none 0 0, .int .i64 0, .int .u64 0, .int .i64 0, .int .u64 0, .int .i64 0, .int .u64 0, .slice none 0 0]), 14, 144) := by kernel_rfl
/-- a row is kept where a row of another type grows -/
theorem ovs_other {α β : Type} {R R' : List Value → α → Prop} {T : List Value → β → Prop} {e e' : TypeId} {size size' base base' : Nat} {w w' : World} {v v' : Value} {vs : List α} {ts : List β} (h : OwnRows R e size base w v vs) (h' : OwnRows T e' size' base' w v' ts) (hg : w.grownBy w' v'.ownBlock) (hne : e ≠ e')
    (hR : ∀ cs v, R cs v → R' cs v) : OwnRows R' e size base w' v vs := by
  obtain ⟨css, hc, ho⟩ := h
  obtain ⟨dss, _, ho'⟩ := h'
  refine ⟨css, hc.mono hR, ho.kept hg ?_⟩
  rcases ho.2 with ⟨rfl, _⟩ | ⟨g, cap, cur, rfl, _, hg1, _⟩
  · exact .inl rfl
  · refine .inr fun he => ?_
    rcases ho'.2 with ⟨rfl, _⟩ | ⟨g', cap', cur', rfl, _, hg2, _⟩
    · cases he
    · simp only [Value.ownBlock, Option.some.injEq] at he
      subst he
      rw [hg1] at hg2
      simp only [Option.some.injEq, Obj.cells.injEq] at hg2
      exact hne hg2.2.1

set_option maxHeartbeats 8000000 in
theorem rdBlock_any (r : Nat) (ab : Option Addr) (n c : Nat) (bs : List Int) (s : St) (w : World) (h : Rd r w ab n c bs s) :
    Calls Try.prog 26 #[.pointer (some ⟨r, 0, none⟩)] w fun e w' => ∃ cs, e = .returned (.agg cs.toArray) ∧ BlockC (filt tyA w.heap.size w') cs (rBlock bs s).1 ∧ Rd r w' ab n c bs (rBlock bs s).2 ∧ Apart r w w' := by
  obtain ⟨x1, e1⟩ : ∃ x, Hid (rWhole bs s = x) := ⟨_, rfl⟩
  obtain ⟨x2, e2⟩ : ∃ x, Hid (rWhole bs x1.2 = x) := ⟨_, rfl⟩
  obtain ⟨x3, e3⟩ : ∃ x, Hid (rSmall bs 1099511627776 x2.2 = x) := ⟨_, rfl⟩
  obtain ⟨x4, e4⟩ : ∃ x, Hid (rSmall bs 16 x3.2 = x) := ⟨_, rfl⟩
  obtain ⟨x5, e5⟩ : ∃ x, Hid (rSmall bs 16 x4.2 = x) := ⟨_, rfl⟩
  have hx4 := rSmall_b h.b8 (m := 16) (by omega) x3.2
  have hx5 := rSmall_b h.b8 (m := 16) (by omega) x4.2
  rw [e4.out] at hx4
  rw [e5.out] at hx5
  obtain ⟨N1, hN1⟩ : ∃ N : Nat, Hid (x4.1 = (N : Int)) := ⟨x4.1.toNat, show x4.1 = (x4.1.toNat : Int) by omega⟩
  obtain ⟨N2, hN2⟩ : ∃ N : Nat, Hid (x5.1 = (N : Int)) := ⟨x5.1.toNat, show x5.1 = (x5.1.toNat : Int) by omega⟩
  rw [hN1.out] at hx4
  rw [hN2.out] at hx5
  have hN1b : (N1 : Int) ≤ 16 := hx4.2
  have hN2b : (N2 : Int) ≤ 16 := hx5.2
  obtain ⟨F1, hF1⟩ : ∃ x, Hid (rVotes bs N1 [] x5.2 = x) := ⟨_, rfl⟩
  obtain ⟨F2, hF2⟩ : ∃ x, Hid (rProofs bs N2 [] F1.2 = x) := ⟨_, rfl⟩
  have HV : Hid (rBlock bs s = (⟨x1.1, x2.1, x3.1, F1.1, F2.1⟩, F2.2)) := by
    show rBlock bs s = _
    have t1 : x4.1.toNat = N1 := by rw [hN1.out]; simp
    have t2 : x5.1.toNat = N2 := by rw [hN2.out]; simp
    rw [← hF2.out, ← hF1.out, ← t1, ← t2, ← e5.out, ← e4.out, ← e3.out, ← e2.out, ← e1.out]
    rfl
  have B1 : Hid (IsU64 x1.1) := by rw [← e1.out]; exact rWhole_b h.b8 _
  have B2 : Hid (IsU64 x2.1) := by rw [← e2.out]; exact rWhole_b h.b8 _
  have B3 : Hid (IsI64 x3.1) := by rw [← e3.out]; exact rSmall_i h.b8 (by omega) _
  have H := hide h
  have hrlt := h.lt
  have hrne : w.heap.size ≠ r := by omega
  clear h hx4 hx5
  obtain ⟨iv, hiv, hv0, hv1, hv2⟩ := info_parts infoVZ
  obtain ⟨ip, hip, hp0, hp1, hp2⟩ := info_parts infoPZ
  go_enter Try.func26, Try.ntmps26
  go_wp2_with fail
  refine (rdWhole_any r ab n c bs s _ (H.out.alloc _)).mono ?_
  rintro e w1 ⟨rfl, hr1, hA1⟩
  rw [e1.out] at hr1 ⊢
  have O1 := hide ((hA1.block w.heap.size (by simp) hrne).trans (heap_alloc_new _ _))
  have hA1' := ((Apart.refl r w).alloc _).trans hA1
  have hsz1 := hA1.size
  simp at hsz1
  have R1 := hide hr1
  have A1 := hide hA1'
  clear hr1 hA1 hA1'
  go_wp2_with fail
  refine (rdWhole_any r ab n c bs x1.2 _ R1.out).mono ?_
  rintro e w2 ⟨rfl, hr2, hA2⟩
  rw [e2.out] at hr2 ⊢
  have O2 := hide ((hA2.block w.heap.size (by omega) hrne).trans O1.out)
  have A2 := hide (A1.out.trans hA2)
  have hsz2 := hA2.size
  have R2 := hide hr2
  clear hr2 hA2 R1 O1 A1
  go_wp2_with fail
  refine (rdSmall_any r ab n c bs x2.2 1099511627776 _ R2.out (by omega)).mono ?_
  rintro e w3 ⟨rfl, hr3, hA3⟩
  rw [e3.out] at hr3 ⊢
  have O3 := hide ((hA3.block w.heap.size (by omega) hrne).trans O2.out)
  have A3 := hide (A2.out.trans hA3)
  have hsz3 := hA3.size
  have R3 := hide hr3
  clear hr3 hA3 R2 O2 A2
  obtain ⟨h3, hh3⟩ : ∃ x, Hid (w3.heap.size = x) := ⟨_, rfl⟩
  go_wp2_with fail
  rw [hh3.out]
  refine (rdSmall_any r ab n c bs x3.2 16 _ (R3.out.alloc _) (by omega)).mono ?_
  rintro e w4 ⟨rfl, hr4, hA4⟩
  rw [e4.out] at hr4 ⊢
  rw [hN1.out]
  have hl3 : w.heap.size < h3 := by rw [← hh3.out]; omega
  have hr3 : r < h3 := by omega
  have O4 := hide (((hA4.block w.heap.size (by simp; omega) hrne).trans (Below.heap_alloc _ _ _ (by omega))).trans O3.out)
  have hv4 := (hA4.block w3.heap.size (by simp) (by omega)).trans (heap_alloc_new _ _)
  rw [hh3.out] at hv4
  have V4 := hide hv4
  have A4 := hide ((A3.out.alloc _).trans hA4)
  have hsz4 : h3 + 1 ≤ w4.heap.size := by have := hA4.size; simp at this; rw [← hh3.out]; omega
  have R4 := hide hr4
  clear hr4 hA4 R3 O3 A3 hv4 hsz1 hsz2 hsz3
  go_wp2_with fail
  refine (rdSmall_any r ab n c bs x4.2 16 _ R4.out (by omega)).mono ?_
  rintro e w5 ⟨rfl, hr5, hA5⟩
  rw [e5.out] at hr5 ⊢
  rw [hN2.out]
  have O5 := hide ((hA5.block w.heap.size (by omega) hrne).trans O4.out)
  have V5 := hide ((hA5.block h3 (by omega) (by omega)).trans V4.out)
  have A5 := hide (A4.out.trans hA5)
  have hsz5 : h3 + 1 ≤ w5.heap.size := Nat.le_trans hsz4 hA5.size
  have R5 := hide hr5
  clear hr5 hA5 R4 O4 A4 V4
  go_wp2
  go_loopw [18] (fun i wr => ∃ (k : Nat) (acc : List Vt) (st : St) (g : Option Addr) (d : Nat), k ≤ N1 ∧ i = .int .i64 k ∧
      Hid (rVotes bs (N1 - k) acc st = F1 ∧ acc.length = k ∧ wr.heap[h3]? = some (.cells #[.int .u64 x1.1, .int .u64 x2.1, .int .i64 x3.1, .slice g k d, .slice none 0 0] 29 (0, 0)) ∧ wr.heap[w.heap.size]? = some (.cells #[.int .u64 0, .int .u64 0, .int .i64 0, .slice none 0 0, .slice none 0 0] 29 (0, 0)) ∧ OwnRows (VoteC (filt tyI (h3 + 1) wr)) 34 7 (h3 + 1) wr (.slice g k d) acc ∧ Rd r wr ab n c bs st ∧ Apart r w wr ∧ h3 + 1 ≤ wr.heap.size)) (fun i _ => N1 - (intOf i).toNat)
  case atStart => exact ⟨0, [], x5.2, none, 0, Nat.zero_le _, rfl, hide ⟨hF1.out, rfl, V5.out, O5.out, OwnRows.none _ _ _ _ _, R5.out, A5.out, hsz5⟩⟩
  case round =>
    obtain ⟨k, acc, st, g, d, hk, rfl, hI⟩ := hrel
    by_cases hlt : k < N1
    · obtain ⟨hw', hal, ob3, ob2, hown, hrd, hAp, hsr⟩ := hI.out
      have cc : wr.cell? ⟨h3, 3, none⟩ = some (.slice g k d) := cell_of_row wr h3 3 _ _ _ ob3
      clear hI
      go_wp2
      refine wp_region_noPanic ?_
      refine wp_region_held_drew (S := fun _ => True) (by kernel_rfl) trivial (fun hHeld => ?_)
      refine take_set (i := 0) (v := .pointer (some ⟨h3, 3, none⟩)) rfl rfl (by kernel_rfl) (by kernel_rfl) (by kernel_rfl) (fun _ _ _ h => h) (Or.inl ⟨by kernel_rfl, fun w' hSw => ?_⟩) hHeld ?_
      · go_simp
      simp only [List.set_cons_succ, List.set_cons_zero]
      refine take_set (i := 2) (v := .pointer (some ⟨r, 0, none⟩)) rfl rfl (by kernel_rfl) (by kernel_rfl) (by kernel_rfl) (fun _ _ _ h => h) (Or.inl ⟨by kernel_rfl, fun w' hSw => ?_⟩) hHeld ?_
      · go_simp
      simp only [List.set_cons_succ, List.set_cons_zero]
      refine wpAnyH_ready (rs := [1, 3]) (by kernel_rfl) (by simp) ?_
      refine AllReadyH.cons (o := _) rfl (fun K hK => ?_) (AllReadyH.cons (o := _) rfl (fun K hK => ?_) AllReadyH.nil)
      · go_simp
        refine hK.out _ _ (trivial) (fun hHeld => ?_)
        clear hK K
        refine wpAnyH_ready (rs := [3]) (by kernel_rfl) (by simp) ?_
        refine AllReadyH.cons (o := _) rfl (fun K hK => ?_) AllReadyH.nil
        go_simp
        refine (rdVote_any r ab n c bs st _ hrd.drew).mono ?_
        rintro e v1 ⟨cs1, rfl, hvx, hr1, hA1⟩
        obtain ⟨⟨y, st'⟩, hy⟩ : ∃ x, Hid (rVote bs st = x) := ⟨_, rfl⟩
        rw [hy.out] at hr1 hvx
        dsimp only at hr1 hvx
        obtain ⟨a4, l4, c4, rfl, hvx⟩ := hvx.out
        have hv1x := hvx.ext (filt_mono (q := tyI) (B := h3 + 1) v1 (by show h3 + 1 ≤ wr.heap.size; omega) (fun t h => h))
        have hsv' : wr.heap.size ≤ v1.heap.size := hA1.size
        have ob3 := (hA1.block h3 (by show h3 < wr.heap.size; omega) (by omega)).trans ob3
        have ob2 := (hA1.block w.heap.size (by show w.heap.size < wr.heap.size; omega) hrne).trans ob2
        obtain ⟨v1', hv1'⟩ : ∃ x, Hid (v1.alloc (votC y a4 l4 c4) = x) := ⟨_, rfl⟩
        have hb1' : Below v1.heap.size v1 v1' := by rw [← hv1'.out]; exact below_alloc _ _
        have OWN' : OwnRows (VoteC (filt tyI (h3 + 1) v1')) 34 7 (h3 + 1) v1' (.slice g k d) acc := ((hown.below (Below.refl _ _).drew (fun cs v h => h.ext (filt_below (Below.refl _ _).drew))).apart hA1 (by omega) (fun cs v h => h.ext (filt_apart hA1 (by omega)))).below hb1' (fun cs v h => h.ext (filt_below hb1'))
        have VC' : VoteC (filt tyI (h3 + 1) v1') (vtCs y a4 l4 c4) y := hv1x.ext (filt_below hb1')
        clear cc
        refine hK.out _ _ (trivial) (fun hHeld => ?_)
        clear hK K
        refine wpAnyH_ready (rs := [4]) (by kernel_rfl) (by simp) ?_
        refine AllReadyH.cons (o := _) rfl (fun K hK => ?_) AllReadyH.nil
        go_simp
        rw [hv1'.out]
        refine hK.out _ _ (trivial) (fun hHeld => ?_)
        clear hK K
        refine wpAnyH_ready (rs := [5]) (by kernel_rfl) (by simp) ?_
        refine AllReadyH.cons (o := _) rfl (fun K hK => ?_) AllReadyH.nil
        refine step_append_structs (R := VoteC (filt tyI (h3 + 1) v1')) rfl (.tmp 21) (.tmp 24) 26 rfl (h3 + 1) 34 iv (.agg #[.int .i64 0, .int .u64 0, .int .i64 0, .int .u64 0, .int .i64 0, .int .u64 0, .slice none 0 0]) 7 72 Try.underlying26 hiv hv0 hv1 hv2 rfl (by omega) (fun cs v h => h.one.1) (.slice g k d) k acc rfl OWN' hal (some ⟨v1.heap.size, 0, none⟩) 1 1 [y] rfl (by rw [← hv1'.out]; exact RowsIn.lit (R := VoteC (filt tyI (h3 + 1) (v1.alloc (votC y a4 l4 c4)))) v1 v1.heap.size (vtCs y a4 l4 c4) 34 7 y rfl rfl (by rw [hv1'.out]; exact VC')) (by unfold maxLen; omega) (by omega) (by have := hb1'.size; omega) ?_
        intro ao5 d5 v5 hown5 hgrow5
        have hlt5 : ∀ j, (Value.slice g k d).ownBlock = some j → h3 + 1 ≤ j := fun j hj => by obtain ⟨css, _, ho⟩ := hown; exact (ho.lt j hj).1
        have hb5 : Below (h3 + 1) v1 v5 := (hb1'.mono (by omega)).grown hgrow5 (by have := hb1'.size; omega) hlt5
        have ob3' := (hb5.block h3 (by omega)).trans ob3
        have cc5 : v5.cell? ⟨h3, 3, none⟩ = some (.slice g k d) := cell_of_row v5 h3 3 _ _ _ ob3'
        have fz5 : v5.frozen? ⟨h3, 3, none⟩ = false := by unfold World.frozen?; rw [ob3']; simp
        have EX5 : Ext (filt tyI (h3 + 1) v1') (filt tyI (h3 + 1) v5) := by obtain ⟨css, _, ho⟩ := OWN'; exact filt_grown hgrow5 ho rfl
        refine hK.out _ _ (trivial) (fun hHeld => ?_)
        clear hK K
        refine take_set (i := 6) (v := .pointer (some ⟨h3, 3, none⟩)) rfl rfl (by kernel_rfl) (by kernel_rfl) (by kernel_rfl) (fun _ _ _ h => h) (Or.inl ⟨by kernel_rfl, fun w' hSw => ?_⟩) hHeld ?_
        · go_simp
        simp only [List.set_cons_succ, List.set_cons_zero]
        refine wpAnyH_ready (rs := [7]) (by kernel_rfl) (by simp) ?_
        refine AllReadyH.cons (o := _) rfl (fun K hK => ?_) AllReadyH.nil
        go_simp
        refine hK.out _ _ (trivial) (fun hHeld => ?_)
        clear hK K
        refine wpAnyH_done (by kernel_rfl) ?_ _
        refine NoPanic.normal ?_
        obtain ⟨v6, hv6⟩ : ∃ x, Hid (v5.setCell ⟨h3, 3, none⟩ (.slice ao5 (k + 1) d5) = x) := ⟨_, rfl⟩
        rw [hv6.out]
        have hA6 : Apart h3 v5 v6 := by rw [← hv6.out]; exact (Apart.refl _ _).set _ _
        have X6 : Hid (v6.heap[h3]? = some (.cells #[.int .u64 x1.1, .int .u64 x2.1, .int .i64 x3.1, .slice ao5 (k + 1) d5, .slice none 0 0] 29 (0, 0))) := by rw [← hv6.out]; exact set_obj ob3' 3 _
        have hb6 : Below w.heap.size v1 v6 := (hb5.mono (by omega)).trans (hA6.old _ (by have := hb5.size; omega) (by omega))
        have O6 : Hid (v6.heap[w.heap.size]? = some (.cells #[.int .u64 0, .int .u64 0, .int .i64 0, .slice none 0 0, .slice none 0 0] 29 (0, 0))) := show _ = _ by rw [hA6.block w.heap.size (by have := hb5.size; omega) (by omega), hb5.block w.heap.size (by omega)]; exact ob2
        have W6 : Hid (OwnRows (VoteC (filt tyI (h3 + 1) v6)) 34 7 (h3 + 1) v6 (.slice ao5 (k + 1) d5) (acc ++ [y])) := hown5.apart hA6 (by omega) (fun cs v h => (h.ext EX5).ext (filt_apart hA6 (by omega)))
        have R6 : Hid (Rd r v6 ab n c bs st') := hr1.keep H.out hb6
        have A6 : Hid (Apart r w v6) := (hAp.drew.trans hA1).keep hb6
        have hs6 : h3 + 1 ≤ v6.heap.size := by have := hb5.size; have := hA6.size; omega
        have hlen6 : Hid ((acc ++ [y]).length = k + 1) := show _ = _ by rw [List.length_append, hal]; rfl
        have hS6 : Hid (rVotes bs (N1 - (k + 1)) (acc ++ [y]) st' = F1) := show _ = _ by
          rw [← hw']
          obtain ⟨q, hq⟩ : ∃ q, N1 - k = q + 1 := ⟨N1 - k - 1, by omega⟩
          rw [hq, show N1 - (k + 1) = q by omega]
          show _ = rVotes bs q (acc ++ [(rVote bs st).1]) (rVote bs st).2
          rw [hy.out]
        clear hb5 hb6 hA6 hown5 hgrow5 hlt5 cc5 fz5 ob3' hown hA1 hr1 ob3 ob2 hAp hrd hw' EX5 hv1x OWN' VC'
        go_wp2
        go_roundw
        case rel => exact ⟨k + 1, acc ++ [y], st', ao5, d5, by omega, by go_num, hide ⟨hS6.out, hlen6.out, X6.out, O6.out, W6.out, R6.out, A6.out, hs6⟩⟩
        case measure => simp [intOf]; omega
      · go_simp
        refine (rdVote_any r ab n c bs st _ hrd.drew).mono ?_
        rintro e v1 ⟨cs1, rfl, hvx, hr1, hA1⟩
        obtain ⟨⟨y, st'⟩, hy⟩ : ∃ x, Hid (rVote bs st = x) := ⟨_, rfl⟩
        rw [hy.out] at hr1 hvx
        dsimp only at hr1 hvx
        obtain ⟨a4, l4, c4, rfl, hvx⟩ := hvx.out
        have hv1x := hvx.ext (filt_mono (q := tyI) (B := h3 + 1) v1 (by show h3 + 1 ≤ wr.heap.size; omega) (fun t h => h))
        have hsv' : wr.heap.size ≤ v1.heap.size := hA1.size
        have ob3 := (hA1.block h3 (by show h3 < wr.heap.size; omega) (by omega)).trans ob3
        have ob2 := (hA1.block w.heap.size (by show w.heap.size < wr.heap.size; omega) hrne).trans ob2
        obtain ⟨v1', hv1'⟩ : ∃ x, Hid (v1.alloc (votC y a4 l4 c4) = x) := ⟨_, rfl⟩
        have hb1' : Below v1.heap.size v1 v1' := by rw [← hv1'.out]; exact below_alloc _ _
        have OWN' : OwnRows (VoteC (filt tyI (h3 + 1) v1')) 34 7 (h3 + 1) v1' (.slice g k d) acc := ((hown.below (Below.refl _ _).drew (fun cs v h => h.ext (filt_below (Below.refl _ _).drew))).apart hA1 (by omega) (fun cs v h => h.ext (filt_apart hA1 (by omega)))).below hb1' (fun cs v h => h.ext (filt_below hb1'))
        have VC' : VoteC (filt tyI (h3 + 1) v1') (vtCs y a4 l4 c4) y := hv1x.ext (filt_below hb1')
        clear cc
        have cc : v1.cell? ⟨h3, 3, none⟩ = some (.slice g k d) := cell_of_row v1 h3 3 _ _ _ ob3
        refine hK.out _ _ (trivial) (fun hHeld => ?_)
        clear hK K
        refine wpAnyH_ready (rs := [1, 4]) (by kernel_rfl) (by simp) ?_
        refine AllReadyH.cons (o := _) rfl (fun K hK => ?_) (AllReadyH.cons (o := _) rfl (fun K hK => ?_) AllReadyH.nil)
        · go_simp
          clear cc
          refine hK.out _ _ (trivial) (fun hHeld => ?_)
          clear hK K
          refine wpAnyH_ready (rs := [4]) (by kernel_rfl) (by simp) ?_
          refine AllReadyH.cons (o := _) rfl (fun K hK => ?_) AllReadyH.nil
          go_simp
          rw [hv1'.out]
          refine hK.out _ _ (trivial) (fun hHeld => ?_)
          clear hK K
          refine wpAnyH_ready (rs := [5]) (by kernel_rfl) (by simp) ?_
          refine AllReadyH.cons (o := _) rfl (fun K hK => ?_) AllReadyH.nil
          refine step_append_structs (R := VoteC (filt tyI (h3 + 1) v1')) rfl (.tmp 21) (.tmp 24) 26 rfl (h3 + 1) 34 iv (.agg #[.int .i64 0, .int .u64 0, .int .i64 0, .int .u64 0, .int .i64 0, .int .u64 0, .slice none 0 0]) 7 72 Try.underlying26 hiv hv0 hv1 hv2 rfl (by omega) (fun cs v h => h.one.1) (.slice g k d) k acc rfl OWN' hal (some ⟨v1.heap.size, 0, none⟩) 1 1 [y] rfl (by rw [← hv1'.out]; exact RowsIn.lit (R := VoteC (filt tyI (h3 + 1) (v1.alloc (votC y a4 l4 c4)))) v1 v1.heap.size (vtCs y a4 l4 c4) 34 7 y rfl rfl (by rw [hv1'.out]; exact VC')) (by unfold maxLen; omega) (by omega) (by have := hb1'.size; omega) ?_
          intro ao5 d5 v5 hown5 hgrow5
          have hlt5 : ∀ j, (Value.slice g k d).ownBlock = some j → h3 + 1 ≤ j := fun j hj => by obtain ⟨css, _, ho⟩ := hown; exact (ho.lt j hj).1
          have hb5 : Below (h3 + 1) v1 v5 := (hb1'.mono (by omega)).grown hgrow5 (by have := hb1'.size; omega) hlt5
          have ob3' := (hb5.block h3 (by omega)).trans ob3
          have cc5 : v5.cell? ⟨h3, 3, none⟩ = some (.slice g k d) := cell_of_row v5 h3 3 _ _ _ ob3'
          have fz5 : v5.frozen? ⟨h3, 3, none⟩ = false := by unfold World.frozen?; rw [ob3']; simp
          have EX5 : Ext (filt tyI (h3 + 1) v1') (filt tyI (h3 + 1) v5) := by obtain ⟨css, _, ho⟩ := OWN'; exact filt_grown hgrow5 ho rfl
          refine hK.out _ _ (trivial) (fun hHeld => ?_)
          clear hK K
          refine take_set (i := 6) (v := .pointer (some ⟨h3, 3, none⟩)) rfl rfl (by kernel_rfl) (by kernel_rfl) (by kernel_rfl) (fun _ _ _ h => h) (Or.inl ⟨by kernel_rfl, fun w' hSw => ?_⟩) hHeld ?_
          · go_simp
          simp only [List.set_cons_succ, List.set_cons_zero]
          refine wpAnyH_ready (rs := [7]) (by kernel_rfl) (by simp) ?_
          refine AllReadyH.cons (o := _) rfl (fun K hK => ?_) AllReadyH.nil
          go_simp
          refine hK.out _ _ (trivial) (fun hHeld => ?_)
          clear hK K
          refine wpAnyH_done (by kernel_rfl) ?_ _
          refine NoPanic.normal ?_
          obtain ⟨v6, hv6⟩ : ∃ x, Hid (v5.setCell ⟨h3, 3, none⟩ (.slice ao5 (k + 1) d5) = x) := ⟨_, rfl⟩
          rw [hv6.out]
          have hA6 : Apart h3 v5 v6 := by rw [← hv6.out]; exact (Apart.refl _ _).set _ _
          have X6 : Hid (v6.heap[h3]? = some (.cells #[.int .u64 x1.1, .int .u64 x2.1, .int .i64 x3.1, .slice ao5 (k + 1) d5, .slice none 0 0] 29 (0, 0))) := by rw [← hv6.out]; exact set_obj ob3' 3 _
          have hb6 : Below w.heap.size v1 v6 := (hb5.mono (by omega)).trans (hA6.old _ (by have := hb5.size; omega) (by omega))
          have O6 : Hid (v6.heap[w.heap.size]? = some (.cells #[.int .u64 0, .int .u64 0, .int .i64 0, .slice none 0 0, .slice none 0 0] 29 (0, 0))) := show _ = _ by rw [hA6.block w.heap.size (by have := hb5.size; omega) (by omega), hb5.block w.heap.size (by omega)]; exact ob2
          have W6 : Hid (OwnRows (VoteC (filt tyI (h3 + 1) v6)) 34 7 (h3 + 1) v6 (.slice ao5 (k + 1) d5) (acc ++ [y])) := hown5.apart hA6 (by omega) (fun cs v h => (h.ext EX5).ext (filt_apart hA6 (by omega)))
          have R6 : Hid (Rd r v6 ab n c bs st') := hr1.keep H.out hb6
          have A6 : Hid (Apart r w v6) := (hAp.drew.trans hA1).keep hb6
          have hs6 : h3 + 1 ≤ v6.heap.size := by have := hb5.size; have := hA6.size; omega
          have hlen6 : Hid ((acc ++ [y]).length = k + 1) := show _ = _ by rw [List.length_append, hal]; rfl
          have hS6 : Hid (rVotes bs (N1 - (k + 1)) (acc ++ [y]) st' = F1) := show _ = _ by
            rw [← hw']
            obtain ⟨q, hq⟩ : ∃ q, N1 - k = q + 1 := ⟨N1 - k - 1, by omega⟩
            rw [hq, show N1 - (k + 1) = q by omega]
            show _ = rVotes bs q (acc ++ [(rVote bs st).1]) (rVote bs st).2
            rw [hy.out]
          clear hb5 hb6 hA6 hown5 hgrow5 hlt5 cc5 fz5 ob3' hown hA1 hr1 ob3 ob2 hAp hrd hw' EX5 hv1x OWN' VC'
          go_wp2
          go_roundw
          case rel => exact ⟨k + 1, acc ++ [y], st', ao5, d5, by omega, by go_num, hide ⟨hS6.out, hlen6.out, X6.out, O6.out, W6.out, R6.out, A6.out, hs6⟩⟩
          case measure => simp [intOf]; omega
        · go_simp
          rw [hv1'.out]
          refine hK.out _ _ (trivial) (fun hHeld => ?_)
          clear hK K
          have cc2 : v1'.cell? ⟨h3, 3, none⟩ = some (.slice g k d) := (hb1'.cell (p := ⟨h3, 3, none⟩) (by show h3 < v1.heap.size; omega)).trans cc
          refine wpAnyH_ready (rs := [1]) (by kernel_rfl) (by simp) ?_
          refine AllReadyH.cons (o := _) rfl (fun K hK => ?_) AllReadyH.nil
          go_simp
          clear cc cc2
          refine hK.out _ _ (trivial) (fun hHeld => ?_)
          clear hK K
          refine wpAnyH_ready (rs := [5]) (by kernel_rfl) (by simp) ?_
          refine AllReadyH.cons (o := _) rfl (fun K hK => ?_) AllReadyH.nil
          refine step_append_structs (R := VoteC (filt tyI (h3 + 1) v1')) rfl (.tmp 21) (.tmp 24) 26 rfl (h3 + 1) 34 iv (.agg #[.int .i64 0, .int .u64 0, .int .i64 0, .int .u64 0, .int .i64 0, .int .u64 0, .slice none 0 0]) 7 72 Try.underlying26 hiv hv0 hv1 hv2 rfl (by omega) (fun cs v h => h.one.1) (.slice g k d) k acc rfl OWN' hal (some ⟨v1.heap.size, 0, none⟩) 1 1 [y] rfl (by rw [← hv1'.out]; exact RowsIn.lit (R := VoteC (filt tyI (h3 + 1) (v1.alloc (votC y a4 l4 c4)))) v1 v1.heap.size (vtCs y a4 l4 c4) 34 7 y rfl rfl (by rw [hv1'.out]; exact VC')) (by unfold maxLen; omega) (by omega) (by have := hb1'.size; omega) ?_
          intro ao5 d5 v5 hown5 hgrow5
          have hlt5 : ∀ j, (Value.slice g k d).ownBlock = some j → h3 + 1 ≤ j := fun j hj => by obtain ⟨css, _, ho⟩ := hown; exact (ho.lt j hj).1
          have hb5 : Below (h3 + 1) v1 v5 := (hb1'.mono (by omega)).grown hgrow5 (by have := hb1'.size; omega) hlt5
          have ob3' := (hb5.block h3 (by omega)).trans ob3
          have cc5 : v5.cell? ⟨h3, 3, none⟩ = some (.slice g k d) := cell_of_row v5 h3 3 _ _ _ ob3'
          have fz5 : v5.frozen? ⟨h3, 3, none⟩ = false := by unfold World.frozen?; rw [ob3']; simp
          have EX5 : Ext (filt tyI (h3 + 1) v1') (filt tyI (h3 + 1) v5) := by obtain ⟨css, _, ho⟩ := OWN'; exact filt_grown hgrow5 ho rfl
          refine hK.out _ _ (trivial) (fun hHeld => ?_)
          clear hK K
          refine take_set (i := 6) (v := .pointer (some ⟨h3, 3, none⟩)) rfl rfl (by kernel_rfl) (by kernel_rfl) (by kernel_rfl) (fun _ _ _ h => h) (Or.inl ⟨by kernel_rfl, fun w' hSw => ?_⟩) hHeld ?_
          · go_simp
          simp only [List.set_cons_succ, List.set_cons_zero]
          refine wpAnyH_ready (rs := [7]) (by kernel_rfl) (by simp) ?_
          refine AllReadyH.cons (o := _) rfl (fun K hK => ?_) AllReadyH.nil
          go_simp
          refine hK.out _ _ (trivial) (fun hHeld => ?_)
          clear hK K
          refine wpAnyH_done (by kernel_rfl) ?_ _
          refine NoPanic.normal ?_
          obtain ⟨v6, hv6⟩ : ∃ x, Hid (v5.setCell ⟨h3, 3, none⟩ (.slice ao5 (k + 1) d5) = x) := ⟨_, rfl⟩
          rw [hv6.out]
          have hA6 : Apart h3 v5 v6 := by rw [← hv6.out]; exact (Apart.refl _ _).set _ _
          have X6 : Hid (v6.heap[h3]? = some (.cells #[.int .u64 x1.1, .int .u64 x2.1, .int .i64 x3.1, .slice ao5 (k + 1) d5, .slice none 0 0] 29 (0, 0))) := by rw [← hv6.out]; exact set_obj ob3' 3 _
          have hb6 : Below w.heap.size v1 v6 := (hb5.mono (by omega)).trans (hA6.old _ (by have := hb5.size; omega) (by omega))
          have O6 : Hid (v6.heap[w.heap.size]? = some (.cells #[.int .u64 0, .int .u64 0, .int .i64 0, .slice none 0 0, .slice none 0 0] 29 (0, 0))) := show _ = _ by rw [hA6.block w.heap.size (by have := hb5.size; omega) (by omega), hb5.block w.heap.size (by omega)]; exact ob2
          have W6 : Hid (OwnRows (VoteC (filt tyI (h3 + 1) v6)) 34 7 (h3 + 1) v6 (.slice ao5 (k + 1) d5) (acc ++ [y])) := hown5.apart hA6 (by omega) (fun cs v h => (h.ext EX5).ext (filt_apart hA6 (by omega)))
          have R6 : Hid (Rd r v6 ab n c bs st') := hr1.keep H.out hb6
          have A6 : Hid (Apart r w v6) := (hAp.drew.trans hA1).keep hb6
          have hs6 : h3 + 1 ≤ v6.heap.size := by have := hb5.size; have := hA6.size; omega
          have hlen6 : Hid ((acc ++ [y]).length = k + 1) := show _ = _ by rw [List.length_append, hal]; rfl
          have hS6 : Hid (rVotes bs (N1 - (k + 1)) (acc ++ [y]) st' = F1) := show _ = _ by
            rw [← hw']
            obtain ⟨q, hq⟩ : ∃ q, N1 - k = q + 1 := ⟨N1 - k - 1, by omega⟩
            rw [hq, show N1 - (k + 1) = q by omega]
            show _ = rVotes bs q (acc ++ [(rVote bs st).1]) (rVote bs st).2
            rw [hy.out]
          clear hb5 hb6 hA6 hown5 hgrow5 hlt5 cc5 fz5 ob3' hown hA1 hr1 ob3 ob2 hAp hrd hw' EX5 hv1x OWN' VC'
          go_wp2
          go_roundw
          case rel => exact ⟨k + 1, acc ++ [y], st', ao5, d5, by omega, by go_num, hide ⟨hS6.out, hlen6.out, X6.out, O6.out, W6.out, R6.out, A6.out, hs6⟩⟩
          case measure => simp [intOf]; omega
    · have : k = N1 := by omega
      subst this
      obtain ⟨hw', hal, ob3, ob2, hown, hrd, hAp, hsr⟩ := hI.out
      rw [Nat.sub_self] at hw'
      have hFe : F1 = (acc, st) := hw'.symm
      subst hFe
      obtain ⟨gv, hgv⟩ : ∃ x, Hid (g = x) := ⟨_, rfl⟩
      obtain ⟨dv, hdv⟩ : ∃ x, Hid (d = x) := ⟨_, rfl⟩
      rw [hgv.out, hdv.out] at ob3 hown
      have HX3 := hide ob3
      have HX2 := hide ob2
      have HOW := hide hown
      have HRD := hide hrd
      have HAP := hide hAp
      have cc3 : wr.cell? ⟨h3, 4, none⟩ = some (.slice none 0 0) := cell_of_row wr h3 4 _ _ _ ob3
      obtain ⟨N1, hNk⟩ : ∃ x, Hid (k = x) := ⟨_, rfl⟩
      obtain ⟨vs, hvs⟩ : ∃ x, Hid (acc = x) := ⟨_, rfl⟩
      have halv : Hid (vs.length = N1) := by rw [← hvs.out, ← hNk.out]; exact hal
      rw [hNk.out] at HX3 HOW
      rw [hvs.out] at HOW
      clear ob3 ob2 hown hrd hAp hI hw'
      obtain ⟨wz, hwz⟩ : ∃ x, Hid (wr = x) := ⟨_, rfl⟩
      go_wp2
      go_loopw [29] (fun i wr => ∃ (k : Nat) (acc : List Pf) (st : St) (g : Option Addr) (d : Nat), k ≤ N2 ∧ i = .int .i64 k ∧
          Hid (rProofs bs (N2 - k) acc st = F2 ∧ acc.length = k ∧ wr.heap[h3]? = some (.cells #[.int .u64 x1.1, .int .u64 x2.1, .int .i64 x3.1, .slice gv N1 dv, .slice g k d] 29 (0, 0)) ∧ wr.heap[w.heap.size]? = some (.cells #[.int .u64 0, .int .u64 0, .int .i64 0, .slice none 0 0, .slice none 0 0] 29 (0, 0)) ∧ OwnRows (ProofC (filt tyI (h3 + 1) wr)) 36 14 (h3 + 1) wr (.slice g k d) acc ∧ Rd r wr ab n c bs st ∧ Apart r w wr ∧ h3 + 1 ≤ wr.heap.size ∧ OwnRows (VoteC (filt tyI (h3 + 1) wr)) 34 7 (h3 + 1) wr (.slice gv N1 dv) vs)) (fun i _ => N2 - (intOf i).toNat)
      case atStart => exact ⟨0, [], st, none, 0, Nat.zero_le _, rfl, hide ⟨hF2.out, rfl, HX3.out, HX2.out, OwnRows.none _ _ _ _ _, HRD.out, HAP.out, hsr, HOW.out⟩⟩
      case round =>
        clear HX3 HX2 HOW HRD HAP cc3 hsr
        clear hgv hdv hwz
        rename_i wrx
        obtain ⟨k, acc, st, g, d, hk, rfl, hI⟩ := hrel
        by_cases hlt : k < N2
        · obtain ⟨hw', hal, ob3, ob2, hown, hrd, hAp, hsr, hov⟩ := hI.out
          have cc : wr.cell? ⟨h3, 4, none⟩ = some (.slice g k d) := cell_of_row wr h3 4 _ _ _ ob3
          clear hI
          go_wp2
          refine wp_region_noPanic ?_
          refine wp_region_held_drew (S := fun _ => True) (by kernel_rfl) trivial (fun hHeld => ?_)
          refine take_set (i := 0) (v := .pointer (some ⟨h3, 4, none⟩)) rfl rfl (by kernel_rfl) (by kernel_rfl) (by kernel_rfl) (fun _ _ _ h => h) (Or.inl ⟨by kernel_rfl, fun w' hSw => ?_⟩) hHeld ?_
          · go_simp
          simp only [List.set_cons_succ, List.set_cons_zero]
          refine take_set (i := 2) (v := .pointer (some ⟨r, 0, none⟩)) rfl rfl (by kernel_rfl) (by kernel_rfl) (by kernel_rfl) (fun _ _ _ h => h) (Or.inl ⟨by kernel_rfl, fun w' hSw => ?_⟩) hHeld ?_
          · go_simp
          simp only [List.set_cons_succ, List.set_cons_zero]
          refine wpAnyH_ready (rs := [1, 3]) (by kernel_rfl) (by simp) ?_
          refine AllReadyH.cons (o := _) rfl (fun K hK => ?_) (AllReadyH.cons (o := _) rfl (fun K hK => ?_) AllReadyH.nil)
          · go_simp
            refine hK.out _ _ (trivial) (fun hHeld => ?_)
            clear hK K
            refine wpAnyH_ready (rs := [3]) (by kernel_rfl) (by simp) ?_
            refine AllReadyH.cons (o := _) rfl (fun K hK => ?_) AllReadyH.nil
            go_simp
            refine (rdProof_any r ab n c bs st _ hrd.drew).mono ?_
            rintro e v1 ⟨cs1, rfl, hvx, hr1, hA1⟩
            obtain ⟨⟨y, st'⟩, hy⟩ : ∃ x, Hid (rProof bs st = x) := ⟨_, rfl⟩
            rw [hy.out] at hr1 hvx
            dsimp only at hr1 hvx
            obtain ⟨xa, xb, rfl, hva, hvb⟩ := hvx
            obtain ⟨a4, l4, c4, rfl, hva⟩ := hva.out
            obtain ⟨a5, l5, c5, rfl, hvb⟩ := hvb.out
            have hvx : ProofC (filt tyI wr.drew.heap.size v1) (vtCs y.a a4 l4 c4 ++ vtCs y.b a5 l5 c5) y := ⟨_, _, rfl, hva, hvb⟩
            clear hva hvb
            have hv1x := hvx.ext (filt_mono (q := tyI) (B := h3 + 1) v1 (by show h3 + 1 ≤ wr.heap.size; omega) (fun t h => h))
            have hsv' : wr.heap.size ≤ v1.heap.size := hA1.size
            have ob3 := (hA1.block h3 (by show h3 < wr.heap.size; omega) (by omega)).trans ob3
            have ob2 := (hA1.block w.heap.size (by show w.heap.size < wr.heap.size; omega) hrne).trans ob2
            obtain ⟨v1', hv1'⟩ : ∃ x, Hid (v1.alloc (prC y a4 l4 c4 a5 l5 c5) = x) := ⟨_, rfl⟩
            have hb1' : Below v1.heap.size v1 v1' := by rw [← hv1'.out]; exact below_alloc _ _
            have OWN' : OwnRows (ProofC (filt tyI (h3 + 1) v1')) 36 14 (h3 + 1) v1' (.slice g k d) acc := ((hown.below (Below.refl _ _).drew (fun cs v h => h.ext (filt_below (Below.refl _ _).drew))).apart hA1 (by omega) (fun cs v h => h.ext (filt_apart hA1 (by omega)))).below hb1' (fun cs v h => h.ext (filt_below hb1'))
            have VC' : ProofC (filt tyI (h3 + 1) v1') (vtCs y.a a4 l4 c4 ++ vtCs y.b a5 l5 c5) y := hv1x.ext (filt_below hb1')
            clear cc
            refine hK.out _ _ (trivial) (fun hHeld => ?_)
            clear hK K
            refine wpAnyH_ready (rs := [4]) (by kernel_rfl) (by simp) ?_
            refine AllReadyH.cons (o := _) rfl (fun K hK => ?_) AllReadyH.nil
            go_simp
            rw [hv1'.out]
            refine hK.out _ _ (trivial) (fun hHeld => ?_)
            clear hK K
            refine wpAnyH_ready (rs := [5]) (by kernel_rfl) (by simp) ?_
            refine AllReadyH.cons (o := _) rfl (fun K hK => ?_) AllReadyH.nil
            refine step_append_structs (R := ProofC (filt tyI (h3 + 1) v1')) rfl (.tmp 32) (.tmp 35) 27 rfl (h3 + 1) 36 ip (.agg #[.int .i64 0, .int .u64 0, .int .i64 0, .int .u64 0, .int .i64 0, .int .u64 0, .slice none 0 0, .int .i64 0, .int .u64 0, .int .i64 0, .int .u64 0, .int .i64 0, .int .u64 0, .slice none 0 0]) 14 144 Try.underlying27 hip hp0 hp1 hp2 rfl (by omega) (fun cs v h => h.one.1) (.slice g k d) k acc rfl OWN' hal (some ⟨v1.heap.size, 0, none⟩) 1 1 [y] rfl (by rw [← hv1'.out]; exact RowsIn.lit (R := ProofC (filt tyI (h3 + 1) (v1.alloc (prC y a4 l4 c4 a5 l5 c5)))) v1 v1.heap.size (vtCs y.a a4 l4 c4 ++ vtCs y.b a5 l5 c5) 36 14 y rfl rfl (by rw [hv1'.out]; exact VC')) (by unfold maxLen; omega) (by omega) (by have := hb1'.size; omega) ?_
            intro ao5 d5 v5 hown5 hgrow5
            have hlt5 : ∀ j, (Value.slice g k d).ownBlock = some j → h3 + 1 ≤ j := fun j hj => by obtain ⟨css, _, ho⟩ := hown; exact (ho.lt j hj).1
            have hb5 : Below (h3 + 1) v1 v5 := (hb1'.mono (by omega)).grown hgrow5 (by have := hb1'.size; omega) hlt5
            have ob3' := (hb5.block h3 (by omega)).trans ob3
            have cc5 : v5.cell? ⟨h3, 4, none⟩ = some (.slice g k d) := cell_of_row v5 h3 4 _ _ _ ob3'
            have fz5 : v5.frozen? ⟨h3, 4, none⟩ = false := by unfold World.frozen?; rw [ob3']; simp
            have EX5 : Ext (filt tyI (h3 + 1) v1') (filt tyI (h3 + 1) v5) := by obtain ⟨css, _, ho⟩ := OWN'; exact filt_grown hgrow5 ho rfl
            have hOV5 := ovs_other ((hov.below (Below.refl _ _).drew (fun cs v h => h.ext (filt_below (Below.refl _ _).drew))).apart hA1 (by omega) (fun cs v h => h.ext (filt_apart hA1 (by omega))) |>.below hb1' (fun cs v h => h.ext (filt_below hb1'))) OWN' hgrow5 (by decide) (fun cs v h => h.ext EX5)
            refine hK.out _ _ (trivial) (fun hHeld => ?_)
            clear hK K
            refine take_set (i := 6) (v := .pointer (some ⟨h3, 4, none⟩)) rfl rfl (by kernel_rfl) (by kernel_rfl) (by kernel_rfl) (fun _ _ _ h => h) (Or.inl ⟨by kernel_rfl, fun w' hSw => ?_⟩) hHeld ?_
            · go_simp
            simp only [List.set_cons_succ, List.set_cons_zero]
            refine wpAnyH_ready (rs := [7]) (by kernel_rfl) (by simp) ?_
            refine AllReadyH.cons (o := _) rfl (fun K hK => ?_) AllReadyH.nil
            go_simp
            refine hK.out _ _ (trivial) (fun hHeld => ?_)
            clear hK K
            refine wpAnyH_done (by kernel_rfl) ?_ _
            refine NoPanic.normal ?_
            obtain ⟨v6, hv6⟩ : ∃ x, Hid (v5.setCell ⟨h3, 4, none⟩ (.slice ao5 (k + 1) d5) = x) := ⟨_, rfl⟩
            rw [hv6.out]
            have hA6 : Apart h3 v5 v6 := by rw [← hv6.out]; exact (Apart.refl _ _).set _ _
            have X6 : Hid (v6.heap[h3]? = some (.cells #[.int .u64 x1.1, .int .u64 x2.1, .int .i64 x3.1, .slice gv N1 dv, .slice ao5 (k + 1) d5] 29 (0, 0))) := by rw [← hv6.out]; exact set_obj ob3' 4 _
            have hb6 : Below w.heap.size v1 v6 := (hb5.mono (by omega)).trans (hA6.old _ (by have := hb5.size; omega) (by omega))
            have O6 : Hid (v6.heap[w.heap.size]? = some (.cells #[.int .u64 0, .int .u64 0, .int .i64 0, .slice none 0 0, .slice none 0 0] 29 (0, 0))) := show _ = _ by rw [hA6.block w.heap.size (by have := hb5.size; omega) (by omega), hb5.block w.heap.size (by omega)]; exact ob2
            have W6 : Hid (OwnRows (ProofC (filt tyI (h3 + 1) v6)) 36 14 (h3 + 1) v6 (.slice ao5 (k + 1) d5) (acc ++ [y])) := hown5.apart hA6 (by omega) (fun cs v h => (h.ext EX5).ext (filt_apart hA6 (by omega)))
            have V6 := hide (hOV5.apart hA6 (by omega) (fun cs v h => h.ext (filt_apart hA6 (by omega))))
            have R6 : Hid (Rd r v6 ab n c bs st') := hr1.keep H.out hb6
            have A6 : Hid (Apart r w v6) := (hAp.drew.trans hA1).keep hb6
            have hs6 : h3 + 1 ≤ v6.heap.size := by have := hb5.size; have := hA6.size; omega
            have hlen6 : Hid ((acc ++ [y]).length = k + 1) := show _ = _ by rw [List.length_append, hal]; rfl
            have hS6 : Hid (rProofs bs (N2 - (k + 1)) (acc ++ [y]) st' = F2) := show _ = _ by
              rw [← hw']
              obtain ⟨q, hq⟩ : ∃ q, N2 - k = q + 1 := ⟨N2 - k - 1, by omega⟩
              rw [hq, show N2 - (k + 1) = q by omega]
              show _ = rProofs bs q (acc ++ [(rProof bs st).1]) (rProof bs st).2
              rw [hy.out]
            clear hb5 hb6 hA6 hown5 hgrow5 hlt5 cc5 fz5 ob3' hown hA1 hr1 ob3 ob2 hAp hrd hw' EX5 hv1x OWN' VC' hov hOV5
            go_wp2
            go_roundw
            case rel => exact ⟨k + 1, acc ++ [y], st', ao5, d5, by omega, by go_num, hide ⟨hS6.out, hlen6.out, X6.out, O6.out, W6.out, R6.out, A6.out, hs6, V6.out⟩⟩
            case measure => simp [intOf]; omega
          · go_simp
            refine (rdProof_any r ab n c bs st _ hrd.drew).mono ?_
            rintro e v1 ⟨cs1, rfl, hvx, hr1, hA1⟩
            obtain ⟨⟨y, st'⟩, hy⟩ : ∃ x, Hid (rProof bs st = x) := ⟨_, rfl⟩
            rw [hy.out] at hr1 hvx
            dsimp only at hr1 hvx
            obtain ⟨xa, xb, rfl, hva, hvb⟩ := hvx
            obtain ⟨a4, l4, c4, rfl, hva⟩ := hva.out
            obtain ⟨a5, l5, c5, rfl, hvb⟩ := hvb.out
            have hvx : ProofC (filt tyI wr.drew.heap.size v1) (vtCs y.a a4 l4 c4 ++ vtCs y.b a5 l5 c5) y := ⟨_, _, rfl, hva, hvb⟩
            clear hva hvb
            have hv1x := hvx.ext (filt_mono (q := tyI) (B := h3 + 1) v1 (by show h3 + 1 ≤ wr.heap.size; omega) (fun t h => h))
            have hsv' : wr.heap.size ≤ v1.heap.size := hA1.size
            have ob3 := (hA1.block h3 (by show h3 < wr.heap.size; omega) (by omega)).trans ob3
            have ob2 := (hA1.block w.heap.size (by show w.heap.size < wr.heap.size; omega) hrne).trans ob2
            obtain ⟨v1', hv1'⟩ : ∃ x, Hid (v1.alloc (prC y a4 l4 c4 a5 l5 c5) = x) := ⟨_, rfl⟩
            have hb1' : Below v1.heap.size v1 v1' := by rw [← hv1'.out]; exact below_alloc _ _
            have OWN' : OwnRows (ProofC (filt tyI (h3 + 1) v1')) 36 14 (h3 + 1) v1' (.slice g k d) acc := ((hown.below (Below.refl _ _).drew (fun cs v h => h.ext (filt_below (Below.refl _ _).drew))).apart hA1 (by omega) (fun cs v h => h.ext (filt_apart hA1 (by omega)))).below hb1' (fun cs v h => h.ext (filt_below hb1'))
            have VC' : ProofC (filt tyI (h3 + 1) v1') (vtCs y.a a4 l4 c4 ++ vtCs y.b a5 l5 c5) y := hv1x.ext (filt_below hb1')
            clear cc
            have cc : v1.cell? ⟨h3, 4, none⟩ = some (.slice g k d) := cell_of_row v1 h3 4 _ _ _ ob3
            refine hK.out _ _ (trivial) (fun hHeld => ?_)
            clear hK K
            refine wpAnyH_ready (rs := [1, 4]) (by kernel_rfl) (by simp) ?_
            refine AllReadyH.cons (o := _) rfl (fun K hK => ?_) (AllReadyH.cons (o := _) rfl (fun K hK => ?_) AllReadyH.nil)
            · go_simp
              clear cc
              refine hK.out _ _ (trivial) (fun hHeld => ?_)
              clear hK K
              refine wpAnyH_ready (rs := [4]) (by kernel_rfl) (by simp) ?_
              refine AllReadyH.cons (o := _) rfl (fun K hK => ?_) AllReadyH.nil
              go_simp
              rw [hv1'.out]
              refine hK.out _ _ (trivial) (fun hHeld => ?_)
              clear hK K
              refine wpAnyH_ready (rs := [5]) (by kernel_rfl) (by simp) ?_
              refine AllReadyH.cons (o := _) rfl (fun K hK => ?_) AllReadyH.nil
              refine step_append_structs (R := ProofC (filt tyI (h3 + 1) v1')) rfl (.tmp 32) (.tmp 35) 27 rfl (h3 + 1) 36 ip (.agg #[.int .i64 0, .int .u64 0, .int .i64 0, .int .u64 0, .int .i64 0, .int .u64 0, .slice none 0 0, .int .i64 0, .int .u64 0, .int .i64 0, .int .u64 0, .int .i64 0, .int .u64 0, .slice none 0 0]) 14 144 Try.underlying27 hip hp0 hp1 hp2 rfl (by omega) (fun cs v h => h.one.1) (.slice g k d) k acc rfl OWN' hal (some ⟨v1.heap.size, 0, none⟩) 1 1 [y] rfl (by rw [← hv1'.out]; exact RowsIn.lit (R := ProofC (filt tyI (h3 + 1) (v1.alloc (prC y a4 l4 c4 a5 l5 c5)))) v1 v1.heap.size (vtCs y.a a4 l4 c4 ++ vtCs y.b a5 l5 c5) 36 14 y rfl rfl (by rw [hv1'.out]; exact VC')) (by unfold maxLen; omega) (by omega) (by have := hb1'.size; omega) ?_
              intro ao5 d5 v5 hown5 hgrow5
              have hlt5 : ∀ j, (Value.slice g k d).ownBlock = some j → h3 + 1 ≤ j := fun j hj => by obtain ⟨css, _, ho⟩ := hown; exact (ho.lt j hj).1
              have hb5 : Below (h3 + 1) v1 v5 := (hb1'.mono (by omega)).grown hgrow5 (by have := hb1'.size; omega) hlt5
              have ob3' := (hb5.block h3 (by omega)).trans ob3
              have cc5 : v5.cell? ⟨h3, 4, none⟩ = some (.slice g k d) := cell_of_row v5 h3 4 _ _ _ ob3'
              have fz5 : v5.frozen? ⟨h3, 4, none⟩ = false := by unfold World.frozen?; rw [ob3']; simp
              have EX5 : Ext (filt tyI (h3 + 1) v1') (filt tyI (h3 + 1) v5) := by obtain ⟨css, _, ho⟩ := OWN'; exact filt_grown hgrow5 ho rfl
              have hOV5 := ovs_other ((hov.below (Below.refl _ _).drew (fun cs v h => h.ext (filt_below (Below.refl _ _).drew))).apart hA1 (by omega) (fun cs v h => h.ext (filt_apart hA1 (by omega))) |>.below hb1' (fun cs v h => h.ext (filt_below hb1'))) OWN' hgrow5 (by decide) (fun cs v h => h.ext EX5)
              refine hK.out _ _ (trivial) (fun hHeld => ?_)
              clear hK K
              refine take_set (i := 6) (v := .pointer (some ⟨h3, 4, none⟩)) rfl rfl (by kernel_rfl) (by kernel_rfl) (by kernel_rfl) (fun _ _ _ h => h) (Or.inl ⟨by kernel_rfl, fun w' hSw => ?_⟩) hHeld ?_
              · go_simp
              simp only [List.set_cons_succ, List.set_cons_zero]
              refine wpAnyH_ready (rs := [7]) (by kernel_rfl) (by simp) ?_
              refine AllReadyH.cons (o := _) rfl (fun K hK => ?_) AllReadyH.nil
              go_simp
              refine hK.out _ _ (trivial) (fun hHeld => ?_)
              clear hK K
              refine wpAnyH_done (by kernel_rfl) ?_ _
              refine NoPanic.normal ?_
              obtain ⟨v6, hv6⟩ : ∃ x, Hid (v5.setCell ⟨h3, 4, none⟩ (.slice ao5 (k + 1) d5) = x) := ⟨_, rfl⟩
              rw [hv6.out]
              have hA6 : Apart h3 v5 v6 := by rw [← hv6.out]; exact (Apart.refl _ _).set _ _
              have X6 : Hid (v6.heap[h3]? = some (.cells #[.int .u64 x1.1, .int .u64 x2.1, .int .i64 x3.1, .slice gv N1 dv, .slice ao5 (k + 1) d5] 29 (0, 0))) := by rw [← hv6.out]; exact set_obj ob3' 4 _
              have hb6 : Below w.heap.size v1 v6 := (hb5.mono (by omega)).trans (hA6.old _ (by have := hb5.size; omega) (by omega))
              have O6 : Hid (v6.heap[w.heap.size]? = some (.cells #[.int .u64 0, .int .u64 0, .int .i64 0, .slice none 0 0, .slice none 0 0] 29 (0, 0))) := show _ = _ by rw [hA6.block w.heap.size (by have := hb5.size; omega) (by omega), hb5.block w.heap.size (by omega)]; exact ob2
              have W6 : Hid (OwnRows (ProofC (filt tyI (h3 + 1) v6)) 36 14 (h3 + 1) v6 (.slice ao5 (k + 1) d5) (acc ++ [y])) := hown5.apart hA6 (by omega) (fun cs v h => (h.ext EX5).ext (filt_apart hA6 (by omega)))
              have V6 := hide (hOV5.apart hA6 (by omega) (fun cs v h => h.ext (filt_apart hA6 (by omega))))
              have R6 : Hid (Rd r v6 ab n c bs st') := hr1.keep H.out hb6
              have A6 : Hid (Apart r w v6) := (hAp.drew.trans hA1).keep hb6
              have hs6 : h3 + 1 ≤ v6.heap.size := by have := hb5.size; have := hA6.size; omega
              have hlen6 : Hid ((acc ++ [y]).length = k + 1) := show _ = _ by rw [List.length_append, hal]; rfl
              have hS6 : Hid (rProofs bs (N2 - (k + 1)) (acc ++ [y]) st' = F2) := show _ = _ by
                rw [← hw']
                obtain ⟨q, hq⟩ : ∃ q, N2 - k = q + 1 := ⟨N2 - k - 1, by omega⟩
                rw [hq, show N2 - (k + 1) = q by omega]
                show _ = rProofs bs q (acc ++ [(rProof bs st).1]) (rProof bs st).2
                rw [hy.out]
              clear hb5 hb6 hA6 hown5 hgrow5 hlt5 cc5 fz5 ob3' hown hA1 hr1 ob3 ob2 hAp hrd hw' EX5 hv1x OWN' VC' hov hOV5
              go_wp2
              go_roundw
              case rel => exact ⟨k + 1, acc ++ [y], st', ao5, d5, by omega, by go_num, hide ⟨hS6.out, hlen6.out, X6.out, O6.out, W6.out, R6.out, A6.out, hs6, V6.out⟩⟩
              case measure => simp [intOf]; omega
            · go_simp
              rw [hv1'.out]
              refine hK.out _ _ (trivial) (fun hHeld => ?_)
              clear hK K
              have cc2 : v1'.cell? ⟨h3, 4, none⟩ = some (.slice g k d) := (hb1'.cell (p := ⟨h3, 4, none⟩) (by show h3 < v1.heap.size; omega)).trans cc
              refine wpAnyH_ready (rs := [1]) (by kernel_rfl) (by simp) ?_
              refine AllReadyH.cons (o := _) rfl (fun K hK => ?_) AllReadyH.nil
              go_simp
              clear cc cc2
              refine hK.out _ _ (trivial) (fun hHeld => ?_)
              clear hK K
              refine wpAnyH_ready (rs := [5]) (by kernel_rfl) (by simp) ?_
              refine AllReadyH.cons (o := _) rfl (fun K hK => ?_) AllReadyH.nil
              refine step_append_structs (R := ProofC (filt tyI (h3 + 1) v1')) rfl (.tmp 32) (.tmp 35) 27 rfl (h3 + 1) 36 ip (.agg #[.int .i64 0, .int .u64 0, .int .i64 0, .int .u64 0, .int .i64 0, .int .u64 0, .slice none 0 0, .int .i64 0, .int .u64 0, .int .i64 0, .int .u64 0, .int .i64 0, .int .u64 0, .slice none 0 0]) 14 144 Try.underlying27 hip hp0 hp1 hp2 rfl (by omega) (fun cs v h => h.one.1) (.slice g k d) k acc rfl OWN' hal (some ⟨v1.heap.size, 0, none⟩) 1 1 [y] rfl (by rw [← hv1'.out]; exact RowsIn.lit (R := ProofC (filt tyI (h3 + 1) (v1.alloc (prC y a4 l4 c4 a5 l5 c5)))) v1 v1.heap.size (vtCs y.a a4 l4 c4 ++ vtCs y.b a5 l5 c5) 36 14 y rfl rfl (by rw [hv1'.out]; exact VC')) (by unfold maxLen; omega) (by omega) (by have := hb1'.size; omega) ?_
              intro ao5 d5 v5 hown5 hgrow5
              have hlt5 : ∀ j, (Value.slice g k d).ownBlock = some j → h3 + 1 ≤ j := fun j hj => by obtain ⟨css, _, ho⟩ := hown; exact (ho.lt j hj).1
              have hb5 : Below (h3 + 1) v1 v5 := (hb1'.mono (by omega)).grown hgrow5 (by have := hb1'.size; omega) hlt5
              have ob3' := (hb5.block h3 (by omega)).trans ob3
              have cc5 : v5.cell? ⟨h3, 4, none⟩ = some (.slice g k d) := cell_of_row v5 h3 4 _ _ _ ob3'
              have fz5 : v5.frozen? ⟨h3, 4, none⟩ = false := by unfold World.frozen?; rw [ob3']; simp
              have EX5 : Ext (filt tyI (h3 + 1) v1') (filt tyI (h3 + 1) v5) := by obtain ⟨css, _, ho⟩ := OWN'; exact filt_grown hgrow5 ho rfl
              have hOV5 := ovs_other ((hov.below (Below.refl _ _).drew (fun cs v h => h.ext (filt_below (Below.refl _ _).drew))).apart hA1 (by omega) (fun cs v h => h.ext (filt_apart hA1 (by omega))) |>.below hb1' (fun cs v h => h.ext (filt_below hb1'))) OWN' hgrow5 (by decide) (fun cs v h => h.ext EX5)
              refine hK.out _ _ (trivial) (fun hHeld => ?_)
              clear hK K
              refine take_set (i := 6) (v := .pointer (some ⟨h3, 4, none⟩)) rfl rfl (by kernel_rfl) (by kernel_rfl) (by kernel_rfl) (fun _ _ _ h => h) (Or.inl ⟨by kernel_rfl, fun w' hSw => ?_⟩) hHeld ?_
              · go_simp
              simp only [List.set_cons_succ, List.set_cons_zero]
              refine wpAnyH_ready (rs := [7]) (by kernel_rfl) (by simp) ?_
              refine AllReadyH.cons (o := _) rfl (fun K hK => ?_) AllReadyH.nil
              go_simp
              refine hK.out _ _ (trivial) (fun hHeld => ?_)
              clear hK K
              refine wpAnyH_done (by kernel_rfl) ?_ _
              refine NoPanic.normal ?_
              obtain ⟨v6, hv6⟩ : ∃ x, Hid (v5.setCell ⟨h3, 4, none⟩ (.slice ao5 (k + 1) d5) = x) := ⟨_, rfl⟩
              rw [hv6.out]
              have hA6 : Apart h3 v5 v6 := by rw [← hv6.out]; exact (Apart.refl _ _).set _ _
              have X6 : Hid (v6.heap[h3]? = some (.cells #[.int .u64 x1.1, .int .u64 x2.1, .int .i64 x3.1, .slice gv N1 dv, .slice ao5 (k + 1) d5] 29 (0, 0))) := by rw [← hv6.out]; exact set_obj ob3' 4 _
              have hb6 : Below w.heap.size v1 v6 := (hb5.mono (by omega)).trans (hA6.old _ (by have := hb5.size; omega) (by omega))
              have O6 : Hid (v6.heap[w.heap.size]? = some (.cells #[.int .u64 0, .int .u64 0, .int .i64 0, .slice none 0 0, .slice none 0 0] 29 (0, 0))) := show _ = _ by rw [hA6.block w.heap.size (by have := hb5.size; omega) (by omega), hb5.block w.heap.size (by omega)]; exact ob2
              have W6 : Hid (OwnRows (ProofC (filt tyI (h3 + 1) v6)) 36 14 (h3 + 1) v6 (.slice ao5 (k + 1) d5) (acc ++ [y])) := hown5.apart hA6 (by omega) (fun cs v h => (h.ext EX5).ext (filt_apart hA6 (by omega)))
              have V6 := hide (hOV5.apart hA6 (by omega) (fun cs v h => h.ext (filt_apart hA6 (by omega))))
              have R6 : Hid (Rd r v6 ab n c bs st') := hr1.keep H.out hb6
              have A6 : Hid (Apart r w v6) := (hAp.drew.trans hA1).keep hb6
              have hs6 : h3 + 1 ≤ v6.heap.size := by have := hb5.size; have := hA6.size; omega
              have hlen6 : Hid ((acc ++ [y]).length = k + 1) := show _ = _ by rw [List.length_append, hal]; rfl
              have hS6 : Hid (rProofs bs (N2 - (k + 1)) (acc ++ [y]) st' = F2) := show _ = _ by
                rw [← hw']
                obtain ⟨q, hq⟩ : ∃ q, N2 - k = q + 1 := ⟨N2 - k - 1, by omega⟩
                rw [hq, show N2 - (k + 1) = q by omega]
                show _ = rProofs bs q (acc ++ [(rProof bs st).1]) (rProof bs st).2
                rw [hy.out]
              clear hb5 hb6 hA6 hown5 hgrow5 hlt5 cc5 fz5 ob3' hown hA1 hr1 ob3 ob2 hAp hrd hw' EX5 hv1x OWN' VC' hov hOV5
              go_wp2
              go_roundw
              case rel => exact ⟨k + 1, acc ++ [y], st', ao5, d5, by omega, by go_num, hide ⟨hS6.out, hlen6.out, X6.out, O6.out, W6.out, R6.out, A6.out, hs6, V6.out⟩⟩
              case measure => simp [intOf]; omega
        · have : k = N2 := by omega
          subst this
          obtain ⟨hw', hal, ob3, ob2, hown, hrd, hAp, hsr, hov⟩ := hI.out
          rw [Nat.sub_self] at hw'
          have HFE : Hid (F2 = (acc, st)) := hw'.symm
          have LD := hide (load_obj (C := #[.int .u64 x1.1, .int .u64 x2.1, .int .i64 x3.1, .slice gv N1 dv, .slice g k d]) Try.underlying29 infoBk rfl ob3)
          obtain ⟨w9, hrun, hx9, hA9⟩ := store_obj (P := Try.prog) (cs := [.int .u64 x1.1, .int .u64 x2.1, .int .i64 x3.1, .slice gv N1 dv, .slice g k d]) infoBk rfl rfl (by simp [Value.oneCell']) ob2
          have RUN := hide hrun
          have X9 := hide hx9
          have E9 := filt_apart (p := tyI) (B := h3 + 1) hA9 (by omega)
          have M9 := filt_mono (p := tyI) (q := tyA) (B := w.heap.size) (B' := h3 + 1) w9 (by omega) (fun t h => by simp only [tyI, tyA] at h ⊢; rw [h]; rfl)
          obtain ⟨az, cz, ez, hz⟩ := filt_rows (p := tyA) (B := w.heap.size) (hov.apart hA9 (by omega) (fun cs v h => (h.ext E9).ext M9)) (by omega) rfl (by omega)
          obtain ⟨ay, cy, ey, hy⟩ := filt_rows (p := tyA) (B := w.heap.size) (hown.apart hA9 (by omega) (fun cs v h => (h.ext E9).ext M9)) (by omega) rfl (by omega)
          rw [halv.out] at ez hz
          rw [hal] at ey hy
          cases ez
          cases ey
          have HZ := hide hz
          have HY := hide hy
          have hb9 : Below w.heap.size wr w9 := hA9.old _ (by have := hAp.size; omega) (Nat.le_refl _)
          have R9 := hide (hrd.keep H.out hb9)
          have A9 := hide (hAp.keep hb9)
          clear hrun hx9 hA9 hI hw' ob3 ob2 hown hrd hAp hov E9 M9 hz hy hb9
          go_wp2_with (first
            | (refine wpList_load_at 29 (.tmp 3) rfl rfl (.pointer (some ⟨h3, 0, none⟩)) rfl (.agg _) LD.out ?_)
            | (refine wpList_store_at 29 (.tmp 2) (.tmp 39) rfl rfl (.pointer (some ⟨w.heap.size, 0, none⟩)) (.agg _) rfl rfl _ RUN.out ?_))
          refine ret_struct rfl rfl X9.out Try.underlying29 infoBk rfl ⟨_, rfl, ?_, ?_, A9.out⟩
          · rw [HV.out, HFE.out, hvs.out]
            exact ⟨⟨B1.out, B2.out, B3.out⟩, _, _, _, _, _, _, rfl, HZ.out, HY.out⟩
          · rw [HV.out, HFE.out]
            exact R9.out
end Go.Proofs.Ytdigpjfgjlhhjaa

/- Contract of wire's Decode: events are read of bytes. -/
import Derived.Test.YtdigpjfgjlhhjaaWRdE

import Derived.BigQuiet

namespace Go.Proofs.Ytdigpjfgjlhhjaa

open Go.ChangeShapes Go.WideShapes Go.ChangeAt Go.RowKit

set_option linter.unusedVariables false

/-- events are read, up to so many more: what was read, where one is, whether it is wrong there -/
def rDec (bs : List Int) : Nat → List Ev → St → List Ev × Nat × Bool
  | 0, acc, s => if s.pos < bs.length then ([], s.pos, true) else (acc, s.pos, false)
  | k + 1, acc, s => if s.pos < bs.length then (if (rEvent bs s).2.bad = true then ([], (rEvent bs s).2.pos, true) else rDec bs k (acc ++ [(rEvent bs s).1]) (rEvent bs s).2) else (acc, s.pos, false)
def lenOf : Value → Nat
  | .slice _ n _ => n
  | _ => 0
/-- the error that tells that the form is wrong -/
def errV (b : Bool) : Value := if b = true then .iface 56 (.int .i64 1) else .nilIface
theorem hole_out (w : World) : hole w.heap.size w = w := by
  unfold hole
  rw [Array.setIfInBounds_eq_of_size_le (Nat.le_refl _)]

set_option maxHeartbeats 8000000 in
theorem dec_any (bs : List Int) (ab : Option Addr) (n c : Nat) (w : World) (h : RowIn .u8 w ab n c bs) (h8 : Bytes8 bs) :
    Calls Try.prog 8 #[.slice ab n c] w fun e w' => ∃ ao m d, e = .returned (.tuple #[.slice ao m d, .int .i64 ((rDec bs 4096 [] ⟨0, false⟩).2.1 : Int), errV (rDec bs 4096 [] ⟨0, false⟩).2.2]) ∧ RowsIn (EventC w') 28 w' ao m d (rDec bs 4096 [] ⟨0, false⟩).1 ∧ Below w.heap.size w w' := by
  obtain ⟨F, hF⟩ : ∃ x, Hid (rDec bs 4096 [] ⟨0, false⟩ = x) := ⟨_, rfl⟩
  rw [hF.out]
  have hlen := h.len
  have hcap := h.cap
  unfold maxLen at hcap
  obtain ⟨u0, hu0⟩ : ∃ x, Hid (w.alloc (.cells #[.slice ab n c, .int .i64 0, .bool false] 55) = x) := ⟨_, rfl⟩
  have R0 : Hid (Rd w.heap.size u0 ab n c bs ⟨0, false⟩) := by
    rw [← hu0.out]
    refine ⟨heap_alloc_new _ _, (Apart.of (below_alloc w _)).row ?_, h8, Nat.zero_le _⟩
    rw [hole_out]
    exact h
  have hb0 : Hid (Below w.heap.size w u0) := by rw [← hu0.out]; exact below_alloc _ _
  have hs0 : w.heap.size + 1 ≤ u0.heap.size := by rw [← hu0.out]; simp
  have hs1 : u0.heap.size ≤ w.heap.size + 1 := by rw [← hu0.out]; simp
  obtain ⟨r, hr⟩ : ∃ x, Hid (w.heap.size = x) := ⟨_, rfl⟩
  rw [hr.out] at R0 hs0 hs1
  obtain ⟨i0, hi, hz0, hz1, hz2⟩ := info_parts infoE
  clear h h8
  go_enter Try.func8, Try.ntmps8
  go_wp2
  rw [hu0.out, hr.out]
  go_loopw [5] (fun x wr => ∃ (k m : Nat) (acc : List Ev) (st : St) (g : Option Addr) (d : Nat), x = .slice g m d ∧ Hid (m + k = 4096) ∧ st.bad = false ∧
      Hid (rDec bs k acc st = F ∧ acc.length = m ∧ OwnRows (EventC (filt tyA (r + 1) wr)) 38 28 (r + 1) wr (.slice g m d) acc ∧ Rd r wr ab n c bs st ∧ Below r w wr ∧ r + 1 ≤ wr.heap.size)) (fun x _ => 4096 - lenOf x)
  case atStart => exact ⟨4096, 0, [], ⟨0, false⟩, none, 0, rfl, hide rfl, rfl, hide ⟨hF.out, rfl, OwnRows.none _ _ _ _ _, R0.out, by rw [← hr.out]; exact hb0.out, hs0⟩⟩
  case round =>
    obtain ⟨k, m, acc, st, g, d, rfl, hmk, hst, hI⟩ := hrel
    obtain ⟨p, bad⟩ := st
    obtain rfl : bad = false := hst
    obtain ⟨hdec, hal, hown, hrd, hbel, hsr⟩ := hI.out
    obtain ⟨q1, q2, q3⟩ := hrd.cells
    have q1d : wr.drew.cell? ⟨r, 0, none⟩ = some (.slice ab n c) := q1
    have q2d : wr.drew.cell? ⟨r, 1, none⟩ = some (.int .i64 (p : Int)) := q2
    have hpn : p ≤ n := hrd.pos
    dsimp only at q2 q3
    clear q1
    by_cases hlt : (p : Int) < (n : Int)
    · by_cases h4 : (m : Int) = 4096
      · have hk0 : k = 0 := by have := hmk.out; omega
        subst hk0
        have hFe : Hid (F = ([], p, true)) := show _ = _ by rw [← hdec]; unfold rDec; rw [if_pos (by rw [hlen]; exact_mod_cast hlt)]
        have hbd : Hid (Below r w wr.drew) := hbel.drew
        clear hI hdec hown hrd hbel
        go_wp2
        refine wp_region_noPanic ?_
        refine wp_region_held_drew (S := fun w' => w'.cell? ⟨r, 1, none⟩ = some (.int .i64 (p : Int))) (by kernel_rfl) q2d (fun hHeld => ?_)
        refine take_set (i := 0) (v := .pointer (some ⟨r, 1, none⟩)) rfl rfl (by kernel_rfl) (by kernel_rfl) (by kernel_rfl) (fun _ _ _ h => h) (Or.inl ⟨by kernel_rfl, fun w' hSw => ?_⟩) hHeld ?_
        · go_simp
        simp only [List.set_cons_succ, List.set_cons_zero]
        refine take_set (i := 1) (v := .int .i64 (p : Int)) rfl rfl (by kernel_rfl) (by kernel_rfl) (by kernel_rfl) (fun _ _ _ h => h) (Or.inl ⟨by kernel_rfl, fun w' hSw => ?_⟩) hHeld ?_
        · go_simp
        simp only [List.set_cons_succ, List.set_cons_zero]
        refine take_set (i := 2) (v := .iface 56 (.int .i64 1)) rfl rfl (by kernel_rfl) (by kernel_rfl) (by kernel_rfl) (fun _ _ _ h => h) (Or.inl ⟨by kernel_rfl, fun w' hSw => ?_⟩) hHeld ?_
        · go_simp
        simp only [List.set_cons_succ, List.set_cons_zero]
        refine take_set (i := 3) (v := .slice none 0 0) rfl rfl (by kernel_rfl) (by kernel_rfl) (by kernel_rfl) (fun _ _ _ h => h) (Or.inl ⟨by kernel_rfl, fun w' hSw => ?_⟩) hHeld ?_
        · go_simp
        simp only [List.set_cons_succ, List.set_cons_zero]
        refine take_set (i := 4) (v := .int .i64 (p : Int)) rfl rfl (by kernel_rfl) (by kernel_rfl) (by kernel_rfl) (fun _ _ _ h => h) (Or.inl ⟨by kernel_rfl, fun w' hSw => ?_⟩) hHeld ?_
        · go_simp
        simp only [List.set_cons_succ, List.set_cons_zero]
        refine take_set (i := 5) (v := .iface 56 (.int .i64 1)) rfl rfl (by kernel_rfl) (by kernel_rfl) (by kernel_rfl) (fun _ _ _ h => h) (Or.inl ⟨by kernel_rfl, fun w' hSw => ?_⟩) hHeld ?_
        · go_simp
        simp only [List.set_cons_succ, List.set_cons_zero]
        refine wpAnyH_done (by kernel_rfl) ?_ _
        refine NoPanic.normal ?_
        go_wp2
        go_ret3
        rw [hFe.out]
        exact ⟨none, 0, 0, rfl, rows0 _ _ _, by rw [hr.out]; exact hbd.out⟩
      · obtain ⟨k', rfl⟩ : ∃ k', k = k' + 1 := ⟨k - 1, by have := hmk.out; omega⟩
        have hm4 : (m : Int) < 4096 := by have := hmk.out; omega
        have hltn : p < bs.length := by rw [hlen]; exact_mod_cast hlt
        obtain ⟨⟨y, st'⟩, hy⟩ : ∃ x, Hid (rEvent bs ⟨p, false⟩ = x) := ⟨_, rfl⟩
        have hstep : Hid (F = if st'.bad = true then ([], st'.pos, true) else rDec bs k' (acc ++ [y]) st') := show _ = _ by
          rw [← hdec]
          show (if p < bs.length then _ else _) = _
          rw [if_pos hltn]
          show (if (rEvent bs ⟨p, false⟩).2.bad = true then _ else _) = _
          rw [hy.out]
        have HRD := hide hrd
        have HOW := hide hown
        have HBE := hide hbel
        have hd4 : decide ((m : Int) = 4096) = false := decide_eq_false h4
        have hd5 : ((m : Int) == 4096) = false := by simpa using h4
        clear hI hdec hrd hown hbel q2d q1d h4
        go_wp2_with fail
        refine (rdEvent_any r ab n c bs ⟨p, false⟩ wr HRD.out).mono ?_
        rintro e v1 ⟨cs, rfl, hv1, hr1, hA1⟩
        rw [hy.out] at hr1 hv1
        dsimp only at hr1 hv1
        have hsv := hA1.size
        have HCL := hide hv1.one.2
        have ST : Hid (∀ Z : Array Value, Z.size = 28 → (Instr.storeAt 38 (.pointer (some ⟨v1.heap.size, 0, none⟩)) (.agg cs.toArray)).run Try.prog (v1.alloc (.cells Z 38)) = .ok () (v1.alloc (.cells cs.toArray 38))) :=
          fun Z hZ => store_new infoEv hv1.one.2 hZ hv1.one.1 rfl
        have EV := hide (hv1.ext (filt_mono (q := tyA) (B := r + 1) v1 (by omega) (fun t h => h)))
        have R1 := hide hr1
        have A1 := hide hA1
        obtain ⟨v2, hv2⟩ : ∃ x, Hid (v1.alloc (.cells cs.toArray 38) = x) := ⟨_, rfl⟩
        have hb2 : Below v1.heap.size v1 v2 := by rw [← hv2.out]; exact below_alloc _ _
        have X2 : v2.heap[v1.heap.size]? = some (.cells cs.toArray 38 (0, 0)) := by rw [← hv2.out]; exact heap_alloc_new _ _
        have L2 : Hid ((Instr.loadAt 38 (.pointer (some ⟨v1.heap.size, 0, none⟩))).run Try.prog v2 = .ok (.agg cs.toArray) v2) := load_obj Try.underlying38 infoEv (by rw [List.size_toArray]; exact HCL.out) X2
        have R2 := hide (hr1.below hb2)
        obtain ⟨z1, z2, z3⟩ := R2.out.cells
        have B2 : Hid (Below r w v2) := (HBE.out.trans (hA1.old r (by omega) (Nat.le_refl _))).trans (hb2.mono (by omega))
        rw [hv2.out] at ST
        have HB2 := hide hb2
        clear hv1 hr1 hA1 hb2 X2 z1
        go_upto_region 7 with (refine wpList_store_at 38 (.tmp 7) (.tmp 21) rfl rfl (.pointer (some ⟨v1.heap.size, 0, none⟩)) (.agg cs.toArray) rfl rfl _ (ST.out _ rfl) ?_)
        clear ST
        obtain ⟨p', bad'⟩ := st'
        dsimp only at z2 z3 hstep
        cases bad'
        · rw [if_neg (by simp)] at hstep
          obtain ⟨v3, hv3⟩ : ∃ x, Hid (v2.alloc (.cells cs.toArray 38) = x) := ⟨_, rfl⟩
          have hb3 : Below v2.heap.size v2 v3 := by rw [← hv3.out]; exact below_alloc _ _
          have hb13 : Below v1.heap.size v1 v3 := HB2.out.trans (hb3.mono HB2.out.size)
          have OWN := hide ((HOW.out.apart A1.out (by omega) (fun cs v h => h.ext (filt_apart A1.out (by omega)))).below hb13 (fun cs v h => h.ext (filt_below hb13)))
          have hRL : Hid (RowsIn (EventC (filt tyA (r + 1) v3)) 28 v3 (some ⟨v2.heap.size, 0, none⟩) 1 1 [y]) := by
            rw [← hv3.out]
            exact RowsIn.lit (R := EventC (filt tyA (r + 1) (v2.alloc (.cells cs.toArray 38)))) v2 v2.heap.size cs 38 28 y rfl HCL.out (by rw [hv3.out]; exact EV.out.ext (filt_below hb13))
          have hs13 := hb13.size
          have HB13 := hide hb13
          have hs23 := hb3.size
          have one : Hid (∀ (cs : List Value) (v : Ev), EventC (filt tyA (r + 1) v3) cs v → ∀ u ∈ cs, u.oneCell' = true) := fun cs v h => h.one.1
          clear hb3 hb13
          go_wp2_with (first
            | (refine wpList_load_at 38 (.tmp 7) rfl rfl (.pointer (some ⟨v1.heap.size, 0, none⟩)) rfl (.agg cs.toArray) L2.out ?_)
            | (refine wpList_build_one rfl 22 38 (.tmp 28) rfl cs 28 rfl HCL.out (by omega) i0 _ Try.underlying22 hi hz0 hz1 ?_; rw [hv3.out])
            | (at_builtin; refine wpList_append_structs (R := EventC (filt tyA (r + 1) v3)) v3 rfl (.tmp 27) (.tmp 29) 22 rfl (r + 1) 38 i0 (.agg (tickCs 0).toArray) 28 304 Try.underlying22 hi hz0 hz1 hz2 rfl (by omega) one.out (.slice g m d) m acc rfl OWN.out hal (some ⟨v2.heap.size, 0, none⟩) 1 1 [y] rfl hRL.out ?c1 ?c2 ?c3 ?_))
          case c1 => unfold maxLen; omega
          case c2 => omega
          case c3 => omega
          intro ao5 d5 v5 hown5 hg5
          have hlt5 : ∀ j, (Value.slice g m d).ownBlock = some j → r + 1 ≤ j := fun j hj => by obtain ⟨css, _, ho⟩ := HOW.out; exact (ho.lt j hj).1
          have hb5 : Below (r + 1) v1 v5 := (HB13.out.mono (by omega)).grown hg5 (by omega) hlt5
          have EX5 : Ext (filt tyA (r + 1) v3) (filt tyA (r + 1) v5) := by obtain ⟨css, _, ho⟩ := OWN.out; exact filt_grown hg5 ho rfl
          have O5 := hide (hown5.mono (R' := EventC (filt tyA (r + 1) v5)) fun cs v h => h.ext EX5)
          have R5 := hide (R1.out.keep R0.out (hb5.mono hs1))
          have B5 : Hid (Below r w v5) := (HBE.out.trans (A1.out.old r (by omega) (Nat.le_refl _))).trans (hb5.mono (by omega))
          have hs5 : r + 1 ≤ v5.heap.size := by have := hb5.size; omega
          have hl5 : Hid ((acc ++ [y]).length = m + 1) := show _ = _ by rw [List.length_append, hal]; rfl
          clear hown5 hg5 hlt5 hb5 EX5 OWN hRL
          go_wp2
          go_roundw
          case rel => exact ⟨k', m + 1, acc ++ [y], ⟨p', false⟩, ao5, d5, rfl, (by have := hmk.out; show _ = _; omega), rfl, hide ⟨hstep.out.symm, hl5.out, O5.out, R5.out, B5.out, hs5⟩⟩
          case measure => simp [lenOf]; omega
        · rw [if_pos rfl] at hstep
          have z2d : v2.drew.cell? ⟨r, 1, none⟩ = some (.int .i64 (p' : Int)) := z2
          go_wp2
          refine wp_region_noPanic ?_
          refine wp_region_held_drew (S := fun w' => w'.cell? ⟨r, 1, none⟩ = some (.int .i64 (p' : Int))) (by kernel_rfl) z2d (fun hHeld => ?_)
          refine take_set (i := 0) (v := .pointer (some ⟨r, 1, none⟩)) rfl rfl (by kernel_rfl) (by kernel_rfl) (by kernel_rfl) (fun _ _ _ h => h) (Or.inl ⟨by kernel_rfl, fun w' hSw => ?_⟩) hHeld ?_
          · go_simp
          simp only [List.set_cons_succ, List.set_cons_zero]
          refine take_set (i := 1) (v := .int .i64 (p' : Int)) rfl rfl (by kernel_rfl) (by kernel_rfl) (by kernel_rfl) (fun _ _ _ h => h) (Or.inl ⟨by kernel_rfl, fun w' hSw => ?_⟩) hHeld ?_
          · go_simp
          simp only [List.set_cons_succ, List.set_cons_zero]
          refine take_set (i := 2) (v := .iface 56 (.int .i64 1)) rfl rfl (by kernel_rfl) (by kernel_rfl) (by kernel_rfl) (fun _ _ _ h => h) (Or.inl ⟨by kernel_rfl, fun w' hSw => ?_⟩) hHeld ?_
          · go_simp
          simp only [List.set_cons_succ, List.set_cons_zero]
          refine take_set (i := 3) (v := .slice none 0 0) rfl rfl (by kernel_rfl) (by kernel_rfl) (by kernel_rfl) (fun _ _ _ h => h) (Or.inl ⟨by kernel_rfl, fun w' hSw => ?_⟩) hHeld ?_
          · go_simp
          simp only [List.set_cons_succ, List.set_cons_zero]
          refine take_set (i := 4) (v := .int .i64 (p' : Int)) rfl rfl (by kernel_rfl) (by kernel_rfl) (by kernel_rfl) (fun _ _ _ h => h) (Or.inl ⟨by kernel_rfl, fun w' hSw => ?_⟩) hHeld ?_
          · go_simp
          simp only [List.set_cons_succ, List.set_cons_zero]
          refine take_set (i := 5) (v := .iface 56 (.int .i64 1)) rfl rfl (by kernel_rfl) (by kernel_rfl) (by kernel_rfl) (fun _ _ _ h => h) (Or.inl ⟨by kernel_rfl, fun w' hSw => ?_⟩) hHeld ?_
          · go_simp
          simp only [List.set_cons_succ, List.set_cons_zero]
          refine wpAnyH_done (by kernel_rfl) ?_ _
          refine NoPanic.normal ?_
          go_wp2
          go_ret3
          rw [hstep.out]
          exact ⟨none, 0, 0, rfl, rows0 _ _ _, by rw [hr.out]; exact B2.out.drew⟩
    · have hFe : Hid (F = (acc, p, false)) := show _ = _ by
        rw [← hdec]
        have hno : ¬ p < bs.length := by rw [hlen]; intro h; exact hlt (by exact_mod_cast h)
        cases k with
        | zero => show (if p < bs.length then _ else _) = _; rw [if_neg hno]
        | succ k => show (if p < bs.length then _ else _) = _; rw [if_neg hno]
      have hbd : Hid (Below r w wr.drew) := hbel.drew
      have hOd := hown.below (R' := EventC wr.drew) (Below.refl wr.heap.size wr).drew (fun cs v h => (h.ext (filt_ext _ _ _)).below (Below.refl _ _).drew)
      obtain ⟨ax, dx, ex, hrows⟩ := hOd.rows (by omega)
      rw [hal] at ex hrows
      cases ex
      have HRW := hide hrows
      clear hI hdec hown hrd hbel hOd hrows
      go_wp2
      refine wp_region_noPanic ?_
      refine wp_region_held_drew (S := fun w' => w'.cell? ⟨r, 1, none⟩ = some (.int .i64 (p : Int))) (by kernel_rfl) q2d (fun hHeld => ?_)
      refine take_set (i := 0) (v := .slice g m d) rfl rfl (by kernel_rfl) (by kernel_rfl) (by kernel_rfl) (fun _ _ _ h => h) (Or.inl ⟨by kernel_rfl, fun w' hSw => ?_⟩) hHeld ?_
      · go_simp
      simp only [List.set_cons_succ, List.set_cons_zero]
      refine take_set (i := 1) (v := .pointer (some ⟨r, 1, none⟩)) rfl rfl (by kernel_rfl) (by kernel_rfl) (by kernel_rfl) (fun _ _ _ h => h) (Or.inl ⟨by kernel_rfl, fun w' hSw => ?_⟩) hHeld ?_
      · go_simp
      simp only [List.set_cons_succ, List.set_cons_zero]
      refine take_set (i := 2) (v := .int .i64 (p : Int)) rfl rfl (by kernel_rfl) (by kernel_rfl) (by kernel_rfl) (fun _ _ _ h => h) (Or.inl ⟨by kernel_rfl, fun w' hSw => ?_⟩) hHeld ?_
      · go_simp
      simp only [List.set_cons_succ, List.set_cons_zero]
      refine take_set (i := 3) (v := .slice g m d) rfl rfl (by kernel_rfl) (by kernel_rfl) (by kernel_rfl) (fun _ _ _ h => h) (Or.inl ⟨by kernel_rfl, fun w' hSw => ?_⟩) hHeld ?_
      · go_simp
      simp only [List.set_cons_succ, List.set_cons_zero]
      refine take_set (i := 4) (v := .int .i64 (p : Int)) rfl rfl (by kernel_rfl) (by kernel_rfl) (by kernel_rfl) (fun _ _ _ h => h) (Or.inl ⟨by kernel_rfl, fun w' hSw => ?_⟩) hHeld ?_
      · go_simp
      simp only [List.set_cons_succ, List.set_cons_zero]
      refine take_set (i := 5) (v := .nilIface) rfl rfl (by kernel_rfl) (by kernel_rfl) (by kernel_rfl) (fun _ _ _ h => h) (Or.inl ⟨by kernel_rfl, fun w' hSw => ?_⟩) hHeld ?_
      · go_simp
      simp only [List.set_cons_succ, List.set_cons_zero]
      refine wpAnyH_done (by kernel_rfl) ?_ _
      refine NoPanic.normal ?_
      go_wp2
      go_ret3
      rw [hFe.out]
      exact ⟨_, _, _, rfl, HRW.out, by rw [hr.out]; exact hbd.out⟩
end Go.Proofs.Ytdigpjfgjlhhjaa

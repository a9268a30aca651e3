/- Contracts of copyVote and copyProof of wire, of votes of any size that came in. -/
import Derived.Test.YtdigpjfgjlhhjaaWRdE

namespace Go.Proofs.Ytdigpjfgjlhhjaa

open Go.ChangeShapes Go.WideShapes Go.ChangeAt Go.RowKit

set_option linter.unusedVariables false

/-- in a region that draws its order: a part of a struct is loaded first -/
theorem take_part {md : Region.Mode} {ops : Array Oper} {S : World → Prop} {Q : Exit → Act → World → Prop} {i d n : Nat} {oi : Oper} {fuel : Nat} {listed : Array Bool} {t : List Value} {df : List Deferred} {w : World} (h o : Nat) (cs : List Value) (ty : TypeId) (x : Operand) (fs : Array Field) (hl : cs.length = n) (hinf : (Try.prog.info? ty).map (·.size) = some n) (hu : Try.prog.underlying ty = some (.struct fs)) (hi : ops[i]? = some oi) (hd : oi.dst = some d)
    (hs : Region.noSelect ops = true) (hf : Region.free md ops listed i = true) (hr : (Region.ready md ops listed).contains i = true)
    (hQ : ∀ c a w, Q (.panic c) (Act.put a oi.dst (.agg cs.toArray)) w → Q (.panic c) a w) (hw : Region.wanted oi (yielded ops t.toArray) = true) (ho : oi.op = .load ty x) (hx : (Act.mk t.toArray df).eval x = .pointer (some ⟨h, o, none⟩))
    (hS : S w) (hO : ∀ w, S w → w.rangeAt h o cs)
    (hn : wpAnyH Try.prog md ops Q S fuel (listed.setIfInBounds i true) ⟨(t.set d (.agg cs.toArray)).toArray, df⟩ w) : wpAnyH Try.prog md ops Q S (fuel + 1) listed ⟨t.toArray, df⟩ w :=
  take_set hi hd hs hf hr hQ (yieldsIf_load_mid hw ty x ho h o hx cs _ hO hu rfl (by rw [hl]; exact hinf)) hS hn
theorem range_at {w : World} {h : Nat} {t : TypeId} (xs ys zs : List Value) (o : Nat) (hlo : xs.length = o) (ho : w.heap[h]? = some (.cells (xs ++ (ys ++ zs)).toArray t (0, 0))) : w.rangeAt h o ys := fun j v hv => by
  subst hlo
  have hj := (List.getElem?_eq_some_iff.1 hv).1
  rw [cell_of_row w h (xs.length + j) _ t _ ho, List.getElem?_toArray, List.getElem?_append_right (by omega), List.getElem?_append_left (by omega), Nat.add_sub_cancel_left]
  exact hv
/-- a store as a step of such a region -/
theorem step_store {P : Program} {ops : Array Oper} {o : Oper} {a : Act} {w w' : World} {K : Act → World → Prop} {Q : Exit → Act → World → Prop} {E : Prop} (ty : TypeId) (x y : Operand) (ho : o.op = .store ty x y) (hg : o.guard = none)
    (vx vy : Value) (hx : a.eval x = vx) (hy : a.eval y = vy) (hrun : (Instr.storeAt ty vx vy).run P w = .ok () w') (hK : K (a.put o.dst undef) w') : if Region.wanted o (yielded ops a.tmps) = true then Oper.wp P o a w K Q else E := by
  have hw : Region.wanted o (yielded ops a.tmps) = true := by simp [Region.wanted, hg]
  rw [if_pos hw]
  unfold Oper.wp execOp
  simp only [ho, hx, hy, Sem.run_bind, Result.andThen_ok, hrun]
  exact hK
theorem Below.apart {h B : Nat} {w w' w'' : World} (H : Below B w w') (k : Apart h w' w'') (hB : B ≤ h) (hs : B ≤ w'.heap.size) : Below B w w'' := H.trans (k.old B hs hB)

set_option maxHeartbeats 2000000 in
theorem copyVote_any (v : Vt) (cs : List Value) (w : World) (h : VoteC w cs v) (hl : v.who.length ≤ 17592186044416) :
    Calls Try.prog 17 #[.agg cs.toArray] w fun e w' => ∃ cs', e = .returned (.agg cs'.toArray) ∧ VoteC (filt tyI w.heap.size w') cs' v ∧ Below w.heap.size w w' := by
  obtain ⟨hw, av, l, c, rfl, hr⟩ := h
  have hlen := hr.len
  have hcap := hr.cap
  have HW := hide hw
  unfold maxLen at hcap
  obtain ⟨W0, hW0⟩ : ∃ W, Hid ((w.alloc (votC v av l c)).alloc (.cells #[.int .i64 0, .int .u64 0, .int .i64 0, .int .u64 0, .int .i64 0, .int .u64 0, .slice none 0 0] 34) = W) := ⟨_, rfl⟩
  have hb0 : Below w.heap.size w W0 := by rw [← hW0.out]; exact ((Below.refl _ _).alloc (Nat.le_refl _) _).alloc (by simp) _
  have hs0 : w.heap.size + 2 ≤ W0.heap.size := by rw [← hW0.out]; simp
  have X1 : W0.heap[w.heap.size]? = some (votC v av l c) := by rw [← hW0.out, Below.heap_alloc _ _ _ (by simp)]; exact heap_alloc_new _ _
  have X2 : W0.heap[w.heap.size + 1]? = some (.cells #[.int .i64 0, .int .u64 0, .int .i64 0, .int .u64 0, .int .i64 0, .int .u64 0, .slice none 0 0] 34 (0, 0)) := by
    have := heap_alloc_new (w.alloc (votC v av l c)) (.cells #[.int .i64 0, .int .u64 0, .int .i64 0, .int .u64 0, .int .i64 0, .int .u64 0, .slice none 0 0] 34 (0, 0))
    rw [← hW0.out]
    simpa using this
  have c6 : W0.cell? ⟨w.heap.size, 6, none⟩ = some (.slice av l c) := cell_of_row W0 w.heap.size 6 _ _ _ X1
  have HR := hide (hr.below hb0)
  have HB0 := hide hb0
  have HX1 := hide X1
  have HX2 := hide X2
  obtain ⟨i0, hi, hz0, hz1, hz2⟩ := info_parts infoInt
  clear hw hr hb0 X1 X2
  go_enter Try.func17, Try.ntmps17
  go_upto_region 1 with fail
  rw [hW0.out]
  go_wp2_with (at_builtin; refine wpList_append_rows _ rfl (.const (.slice none 0 0)) (.tmp 4) 32 rfl (w.heap.size + 2) 3 i0 .i64 (.int .i64 0) 8 Try.underlying32 hi hz0 hz1 hz2 rfl (.slice none 0 0) 0 [] rfl (World.ownsRow_nil _ _ _ _) av l c v.who rfl HR.out ?c1 ?c2 ?c3 ?_)
  case c1 => unfold maxLen; omega
  case c2 => omega
  case c3 => exact hs0
  intro ao5 d5 v5 hown5 hg5
  have hb5 : Below W0.heap.size W0 v5 := (Below.refl _ _).grown hg5 (Nat.le_refl _) (fun k h => by cases h)
  have x1 := (hb5.block w.heap.size (by omega)).trans HX1.out
  have x2 := (hb5.block (w.heap.size + 1) (by omega)).trans HX2.out
  have cc : v5.cell? ⟨w.heap.size, 6, none⟩ = some (.slice av l c) := cell_of_row v5 w.heap.size 6 _ _ _ x1
  have fz : v5.frozen? ⟨w.heap.size, 6, none⟩ = false := by unfold World.frozen?; rw [x1]; simp
  obtain ⟨v6, hv6⟩ : ∃ x, Hid (v5.setCell ⟨w.heap.size, 6, none⟩ (.slice ao5 l d5) = x) := ⟨_, rfl⟩
  have hA6 : Apart w.heap.size v5 v6 := by rw [← hv6.out]; exact (Apart.refl _ _).set _ _
  have y1 : v6.heap[w.heap.size]? = some (.cells (vtCs v ao5 l d5).toArray 34 (0, 0)) := by rw [← hv6.out]; exact set_obj x1 6 _
  have y2 := (hA6.block (w.heap.size + 1) (by have := hb5.size; omega) (by omega)).trans x2
  have LD := hide (load_obj (C := (vtCs v ao5 l d5).toArray) Try.underlying34 infoVt rfl y1)
  obtain ⟨v7, hrun, y7, hA7⟩ := store_obj (P := Try.prog) (cs := vtCs v ao5 l d5) infoVt rfl rfl (by simp [Value.oneCell']) y2
  have RUN := hide hrun
  have Y7 := hide y7
  have hs5 := hb5.size
  have hs6 := hA6.size
  have HB7 : Hid (Below w.heap.size w v7) := Below.apart (Below.apart (HB0.out.trans (hb5.mono (by omega))) hA6 (Nat.le_refl _) (by omega)) hA7 (by omega) (by omega)
  have OW : v7.ownsRow (w.heap.size + 2) 3 1 (.slice ao5 l d5) l (v.who.map (Value.int .i64)) := owns_apart (owns_apart hown5 hA6 (by omega)) hA7 (by omega)
  have HOW := hide OW
  clear hown5 hg5 hb5 x1 x2 y1 y2 hrun y7 hA6 hA7 OW
  go_upto_region 2 with fail
  rw [hv6.out]
  go_wp2_with (first
    | (refine wpList_load_at 34 (.tmp 1) rfl rfl (.pointer (some ⟨w.heap.size, 0, none⟩)) rfl (.agg _) LD.out ?_)
    | (refine wpList_store_at 34 (.tmp 2) (.tmp 7) rfl rfl (.pointer (some ⟨w.heap.size + 1, 0, none⟩)) (.agg _) rfl rfl _ RUN.out ?_))
  obtain ⟨az, cz, ez, hz⟩ := filt_own (p := tyI) (B := w.heap.size) HOW.out rfl (by omega)
  cases ez
  exact ret_struct rfl rfl Y7.out Try.underlying34 infoVt rfl ⟨_, rfl, ⟨HW.out, _, _, _, rfl, hz⟩, HB7.out⟩

set_option maxHeartbeats 2000000 in
theorem copyProof_any (p : Pf) (cs : List Value) (w : World) (h : ProofC w cs p) (hla : p.a.who.length ≤ 17592186044416) (hlb : p.b.who.length ≤ 17592186044416) :
    Calls Try.prog 18 #[.agg cs.toArray] w fun e w' => ∃ cs', e = .returned (.agg cs'.toArray) ∧ ProofC (filt tyI w.heap.size w') cs' p ∧ Below w.heap.size w w' := by
  obtain ⟨x, y, rfl, h1, h2⟩ := h
  obtain ⟨a4, l4, c4, rfl, HA⟩ := h1.out
  obtain ⟨a5, l5, c5, rfl, HB⟩ := h2.out
  obtain ⟨W0, hW0⟩ : ∃ W, Hid ((w.alloc (prC p a4 l4 c4 a5 l5 c5)).alloc (.cells #[.int .i64 0, .int .u64 0, .int .i64 0, .int .u64 0, .int .i64 0, .int .u64 0, .slice none 0 0, .int .i64 0, .int .u64 0, .int .i64 0, .int .u64 0, .int .i64 0, .int .u64 0, .slice none 0 0] 36) = W) := ⟨_, rfl⟩
  have hb0 : Below w.heap.size w W0 := by rw [← hW0.out]; exact ((Below.refl _ _).alloc (Nat.le_refl _) _).alloc (by simp) _
  have hs0 : w.heap.size + 2 ≤ W0.heap.size := by rw [← hW0.out]; simp
  have X1 : W0.heap[w.heap.size]? = some (.cells (([] : List Value) ++ (vtCs p.a a4 l4 c4 ++ vtCs p.b a5 l5 c5)).toArray 36 (0, 0)) := by rw [← hW0.out, Below.heap_alloc _ _ _ (by simp)]; exact heap_alloc_new _ _
  have X2 : W0.heap[w.heap.size + 1]? = some (.cells #[.int .i64 0, .int .u64 0, .int .i64 0, .int .u64 0, .int .i64 0, .int .u64 0, .slice none 0 0, .int .i64 0, .int .u64 0, .int .i64 0, .int .u64 0, .int .i64 0, .int .u64 0, .slice none 0 0] 36 (0, 0)) := by
    have := heap_alloc_new (w.alloc (prC p a4 l4 c4 a5 l5 c5)) (.cells #[.int .i64 0, .int .u64 0, .int .i64 0, .int .u64 0, .int .i64 0, .int .u64 0, .slice none 0 0, .int .i64 0, .int .u64 0, .int .i64 0, .int .u64 0, .int .i64 0, .int .u64 0, .slice none 0 0] 36 (0, 0))
    rw [← hW0.out]
    simpa using this
  have hWd : Below W0.heap.size W0 W0.drew := (Below.refl _ _).drew
  have KA := hide (HA.below (hb0.trans (hWd.mono (by omega))))
  have KB := hide HB
  clear HA HB h1 h2
  go_enter Try.func18, Try.ntmps18
  go_upto_region 1 with fail
  rw [hW0.out]
  refine wp_region_noPanic ?_
  refine wp_region_held_drew (S := fun w' => w'.heap[w.heap.size]? = some (.cells (([] : List Value) ++ (vtCs p.a a4 l4 c4 ++ vtCs p.b a5 l5 c5)).toArray 36 (0, 0))) (by kernel_rfl) X1 (fun hHeld => ?_)
  refine take_set (i := 0) (v := .pointer (some ⟨w.heap.size, 0, none⟩)) rfl rfl (by kernel_rfl) (by kernel_rfl) (by kernel_rfl) (fun _ _ _ h => h) (Or.inl ⟨by kernel_rfl, fun w' hSw => ?_⟩) hHeld ?_
  · go_simp
  simp only [List.set_cons_succ, List.set_cons_zero]
  refine take_part (i := 1) w.heap.size 0 (vtCs p.a a4 l4 c4) 34 (.tmp 3) _ rfl infoVt Try.underlying34 rfl rfl (by kernel_rfl) (by kernel_rfl) (by kernel_rfl) (fun _ _ _ h => h) (by kernel_rfl) rfl rfl hHeld (fun w' h => range_at [] (vtCs p.a a4 l4 c4) (vtCs p.b a5 l5 c5) 0 rfl h) ?_
  simp only [List.set_cons_succ, List.set_cons_zero]
  refine take_set (i := 3) (v := .pointer (some ⟨w.heap.size, 7, none⟩)) rfl rfl (by kernel_rfl) (by kernel_rfl) (by kernel_rfl) (fun _ _ _ h => h) (Or.inl ⟨by kernel_rfl, fun w' hSw => ?_⟩) hHeld ?_
  · go_simp
  simp only [List.set_cons_succ, List.set_cons_zero]
  refine take_part (i := 4) w.heap.size 7 (vtCs p.b a5 l5 c5) 34 (.tmp 6) _ rfl infoVt Try.underlying34 rfl rfl (by kernel_rfl) (by kernel_rfl) (by kernel_rfl) (fun _ _ _ h => h) (by kernel_rfl) rfl rfl hHeld (fun w' h => range_at (vtCs p.a a4 l4 c4) (vtCs p.b a5 l5 c5) [] 7 rfl (by simpa using h)) ?_
  simp only [List.set_cons_succ, List.set_cons_zero]
  refine wpAnyH_ready (rs := [2]) (by kernel_rfl) (by simp) ?_
  refine AllReadyH.cons (o := _) rfl (fun K hK => ?_) AllReadyH.nil
  go_simp
  refine (copyVote_any p.a _ _ KA.out hla).mono ?_
  rintro e v1 ⟨cs1, rfl, hv1, hb1⟩
  obtain ⟨a6, l6, c6, rfl, hv1⟩ := hv1.out
  have hb01 : Below W0.heap.size W0 v1 := hWd.trans hb1
  have x1 := (hb01.block w.heap.size (by omega)).trans X1
  have x2 := (hb01.block (w.heap.size + 1) (by omega)).trans X2
  have hbw1 : Below w.heap.size w v1 := hb0.trans (hb01.mono (by omega))
  have hv1 := hv1.ext (filt_mono (q := tyI) (B := w.heap.size + 2) v1 hs0 (fun t h => h))
  refine hK.out _ _ (x1) (fun hHeld => ?_)
  clear hK K
  refine wpAnyH_ready (rs := [5]) (by kernel_rfl) (by simp) ?_
  refine AllReadyH.cons (o := _) rfl (fun K hK => ?_) AllReadyH.nil
  go_simp
  refine (copyVote_any p.b _ v1 (KB.out.below hbw1) hlb).mono ?_
  rintro e v2 ⟨cs2, rfl, hv2, hb2⟩
  obtain ⟨a7, l7, c7, rfl, hv2⟩ := hv2.out
  have hs1 := hb01.size
  have x1' := (hb2.block w.heap.size (by omega)).trans x1
  have x2' := (hb2.block (w.heap.size + 1) (by omega)).trans x2
  have hbw2 : Below w.heap.size w v2 := hbw1.trans (hb2.mono hbw1.size)
  have hv2 := hv2.ext (filt_mono (q := tyI) (B := w.heap.size + 2) v2 (by omega) (fun t h => h))
  have hv1 := hv1.ext (filt_below hb2)
  refine hK.out _ _ (x1') (fun hHeld => ?_)
  clear hK K
  refine take_set (i := 6) (v := .agg (vtCs p.a a6 l6 c6 ++ vtCs p.b a7 l7 c7).toArray) rfl rfl (by kernel_rfl) (by kernel_rfl) (by kernel_rfl) (fun _ _ _ h => h) (Or.inl ⟨by kernel_rfl, fun w' hSw => ?_⟩) hHeld ?_
  · go_simp
  simp only [List.set_cons_succ, List.set_cons_zero]
  obtain ⟨v3, hrun, y3, hA3⟩ := store_obj (P := Try.prog) (cs := vtCs p.a a6 l6 c6 ++ vtCs p.b a7 l7 c7) infoPf rfl rfl (by simp [Value.oneCell']) x2'
  have x3 := (hA3.block w.heap.size (by have := hb2.size; omega) (by omega)).trans x1'
  have hb3 : Below w.heap.size w v3 := Below.apart hbw2 hA3 (by omega) (by have := hb2.size; omega)
  have EX := filt_apart (p := tyI) (B := w.heap.size + 2) hA3 (by omega)
  have MX := filt_mono (p := tyI) (q := tyI) (B := w.heap.size) (B' := w.heap.size + 2) v3 (by omega) (fun t h => h)
  refine wpAnyH_ready (rs := [7]) (by kernel_rfl) (by simp) ?_
  refine AllReadyH.cons (o := _) rfl (fun K hK => ?_) AllReadyH.nil
  refine step_store 36 (.tmp 2) (.tmp 9) rfl rfl (.pointer (some ⟨w.heap.size + 1, 0, none⟩)) (.agg (vtCs p.a a6 l6 c6 ++ vtCs p.b a7 l7 c7).toArray) rfl rfl hrun ?_
  refine hK.out _ _ (x3) (fun hHeld => ?_)
  clear hK K
  refine wpAnyH_done (by kernel_rfl) ?_ _
  refine NoPanic.normal ?_
  go_wp2
  exact ret_struct rfl rfl y3 Try.underlying36 infoPf rfl ⟨_, rfl, ⟨_, _, rfl, (hv1.ext EX).ext MX, (hv2.ext EX).ext MX⟩, hb3⟩
end Go.Proofs.Ytdigpjfgjlhhjaa

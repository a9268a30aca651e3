/- Contract of slices.Insert of one number of 64 bits without a sign, into a row of the call's own. -/
import Derived.Test.YtfkabmgbcdoijaaObjs

import Derived.Lib.AppendZerosOnto

import Derived.Lib.Overlaps

import Derived.Laws.IdiomCopy

import Derived.Laws.NewBlocks

import Derived.Laws.Externs

import Derived.Maps.AppendAt

import Derived.Deep.RegionLaw

namespace Go.Proofs.Ytfkabmgbcdoijaa

open Go.ChangeShapes Go.WideShapes Go.ChangeAt Go.RowKit

set_option linter.unusedVariables false

/-- 'copy', its run known by an equation -/
theorem wpList_copy_eq {P : Program} {w : World} {ops : Array Oper} {rest : List Oper} {o : Oper} {a : Act} {Q : Exit → Act → World → Prop} (hgd : o.guard = none) (d s : Operand) (t t' : TypeId)
    (ho : o.op = .call { callee := .builtin .copy, args := #[d, s], argTypes := #[t, t'] }) (v u : Value) (hd : a.eval d = v) (hs : a.eval s = u) {v' : Value} {w' : World}
    (hr : (Builtin.copy_ #[t, t'] o.type #[v, u]).run P w = .ok v' w') (h : wpList P ops Q rest (a.put o.dst v') w') : wpList P ops Q (o :: rest) a w :=
  wpList_plain hgd fun _ hK => by
    have := hK _ _ h
    unfold Oper.wp execOp
    simp only [ho, resolve, invoke, builtin, Sem.run_bind, Sem.run_pure, Result.andThen_ok, List.map_toArray, List.map_cons, List.map_nil, hd, hs, hr]
    exact this
theorem step_copy_eq {P : Program} {ops : Array Oper} {o : Oper} {a : Act} {w : World} {K : Act → World → Prop} {Q : Exit → Act → World → Prop} {E : Prop} (hg : o.guard = none) (d x : Operand) (dT sT : TypeId)
    (hop : o.op = Op.call { callee := Callee.builtin Builtin.copy, args := #[d, x], argTypes := #[dT, sT] }) (v u : Value) (hd : a.eval d = v) (hx : a.eval x = u) {v' : Value} {w' : World}
    (hr : (Builtin.copy_ #[dT, sT] o.type #[v, u]).run P w = .ok v' w') (hK : K (a.put o.dst v') w') : if Region.wanted o (yielded ops a.tmps) = true then Oper.wp P o a w K Q else E := by
  have hw : Region.wanted o (yielded ops a.tmps) = true := by simp [Region.wanted, hg]
  rw [if_pos hw]
  unfold Oper.wp
  simp [execOp, hop, resolve, invoke, builtin, hd, hx, hr, Result.andThen]
  exact hK
theorem cell_setCells_in {t : TypeId} {m : Nat × Nat} {w : World} {g : Nat} {C : Array Value} (h : w.heap[g]? = some (.cells C t m)) (o : Nat) (cs : List Value) (j : Nat) : (w.setCells g o cs).cell? ⟨g, j, none⟩ = (wrote C o cs)[j]? := cell_of_row _ _ _ _ _ _ (setCells_obj cs o C w h).1

/-- a list with one more in it -/
def ins (xs : List Int) (i : Nat) (x : Int) : List Int := xs.take i ++ x :: xs.drop i
theorem ins_len (xs : List Int) (i : Nat) (x : Int) (h : i ≤ xs.length) : (ins xs i x).length = xs.length + 1 := by simp [ins]; omega
theorem ins_map (xs : List Int) (i : Nat) (x : Int) (f : Int → Value) : (ins xs i x).map f = (xs.map f).take i ++ f x :: (xs.map f).drop i := by simp [ins, List.map_take, List.map_drop]
theorem mid_get (cs : List Value) (y : Value) (i j : Nat) (h : i ≤ cs.length) : (cs.take i ++ y :: cs.drop i)[j]? = if j < i then cs[j]? else if j = i then some y else cs[j - 1]? := by
  by_cases h1 : j < i
  · rw [if_pos h1, List.getElem?_append_left (by simp; omega), List.getElem?_take, if_pos h1]
  · rw [if_neg h1, List.getElem?_append_right (by simp; omega), List.length_take, Nat.min_eq_left h]
    by_cases h2 : j = i
    · subst h2; simp
    · rw [if_neg h2, show j - i = (j - i - 1) + 1 by omega, List.getElem?_cons_succ, List.getElem?_drop]
      congr 1
      omega
/-- what Insert leaves -/
def Inserted (base : Nat) (w : World) (v : Value) (n : Nat) (zs : List Int) (e : Ending) (w' : World) : Prop :=
  ∃ v', e = .returned v' ∧ w'.ownsRow base 29 1 v' (n + 1) (zs.map (Value.int .u64)) ∧ w.grownBy w' v.ownBlock ∧ (v'.ownBlock = v.ownBlock ∨ v'.ownBlock = some w.heap.size)

theorem u64_one (xs : List Int) : ∀ v ∈ xs.map (Value.int .u64), v.oneCell' = true := by
  intro v hv
  obtain ⟨z, _, rfl⟩ := List.mem_map.1 hv
  rfl
theorem insert_end (base : Nat) (xs : List Int) (v : Value) (n : Nat) (x : Int) (w : World) (vb : Nat) (hown : w.ownsRow base 29 1 v n (xs.map (Value.int .u64))) (hv : OAt w vb (.cells #[.int .u64 x] 29)) (hn : n ≤ 4294967296) (hb : base ≤ w.heap.size) :
    Calls Try.prog 30 #[v, .int .i64 n, .slice (some ⟨vb, 0, none⟩) 1 1] w (Inserted base w v n (ins xs n x)) := by
  have hl : xs.length = n := by have := hown.1; simpa using this
  have hins : ins xs n x = xs ++ [x] := by rw [ins, List.take_of_length_le (by omega), List.drop_of_length_le (by omega)]
  rw [hins]
  have hc0 : Hid (∀ j u, [Value.int .u64 x][j]? = some u → w.cell? ((⟨vb, 0, none⟩ : Addr).add j) = some u) := fun j u hj => by
    rw [Addr.add_lit, hv.cell]
    simpa using hj
  have hc1 : n + 1 ≤ maxLen := by unfold maxLen; omega
  obtain ⟨i0, hi, hz0, hz1, hz2⟩ := info_parts (show (Try.prog.info? 29).map (fun i => (i.zero, i.size, i.bytes)) = some (some (.int .u64 0), 1, 8) by kernel_rfl)
  rcases hown.2 with ⟨rfl, rfl⟩ | ⟨g, c, cur, rfl, hbg, hbb, hnc, hcm, hcs, hct⟩
  · have HO := hide hown
    clear hown hv
    go_enter Try.func30, Try.ntmps30
    go_wp2_with (at_builtin; refine wpList_append_own_at _ rfl _ _ 42 rfl base 29 i0 (.int .u64 0) 1 8 Try.underlying42 hi hz0 hz1 hz2 rfl (by decide) _ _ _ rfl HO.out ⟨vb, 0, none⟩ 1 1 [.int .u64 x] rfl rfl hc0.out (by simp [Value.oneCell']) hc1 (by omega) hb ?_; intro v' w1 hown1 hg hnil hloc)
    go_ret
    exact ⟨_, rfl, by rw [List.map_append]; exact hown1, hg, hloc⟩
  · clear hbb hcs hct hbg
    unfold maxLen at hcm
    by_cases hcn : c = n
    · subst hcn
      have HO := hide hown
      clear hown hv
      go_enter Try.func30, Try.ntmps30
      go_wp2_with (at_builtin; refine wpList_append_own_at _ rfl _ _ 42 rfl base 29 i0 (.int .u64 0) 1 8 Try.underlying42 hi hz0 hz1 hz2 rfl (by decide) _ _ _ rfl HO.out ⟨vb, 0, none⟩ 1 1 [.int .u64 x] rfl rfl hc0.out (by simp [Value.oneCell']) hc1 (by omega) hb ?_; intro v' w1 hown1 hg hnil hloc)
      go_ret
      exact ⟨_, rfl, by rw [List.map_append]; exact hown1, hg, hloc⟩
    · have HO := hide hown
      clear hown hv
      go_enter Try.func30, Try.ntmps30
      go_wp2_with (at_builtin; refine wpList_append_own_at _ rfl _ _ 42 rfl base 29 i0 (.int .u64 0) 1 8 Try.underlying42 hi hz0 hz1 hz2 rfl (by decide) _ _ _ rfl HO.out ⟨vb, 0, none⟩ 1 1 [.int .u64 x] rfl rfl hc0.out (by simp [Value.oneCell']) hc1 (by omega) hb ?_; intro v' w1 hown1 hg hnil hloc)
      go_ret
      exact ⟨_, rfl, by rw [List.map_append]; exact hown1, hg, hloc⟩

set_option maxRecDepth 100000 in
set_option maxHeartbeats 2000000 in
theorem insert_grow (base : Nat) (xs : List Int) (g n i : Nat) (x : Int) (w : World) (vb : Nat) (hown : w.ownsRow base 29 1 (.slice (some ⟨g, 0, none⟩) n n) n (xs.map (Value.int .u64))) (hv : OAt w vb (.cells #[.int .u64 x] 29)) (hi : i < n) (hn : n ≤ 4294967296) (hb : base ≤ w.heap.size) :
    Calls Try.prog 30 #[.slice (some ⟨g, 0, none⟩) n n, .int .i64 i, .slice (some ⟨vb, 0, none⟩) 1 1] w (Inserted base w (.slice (some ⟨g, 0, none⟩) n n) n (ins xs i x)) := by
  have hl : xs.length = n := by have := hown.1; simpa using this
  have hgw : g < w.heap.size := (hown.lt g rfl).2
  have hblk : w.heap[g]? = some (.cells (xs.map (Value.int .u64)).toArray 29 (0, 0)) := by
    rcases hown.2 with ⟨h, _⟩ | ⟨g', cap', cur, h, _, hbb, _, _, hcs, hct⟩
    · cases h
    · cases h
      rw [hbb, ← hct, List.take_of_length_le (by simp; omega)]
  clear hown
  obtain ⟨cs, hcs⟩ : ∃ cs, cs = xs.map (Value.int .u64) := ⟨_, rfl⟩
  have hcl : cs.length = n := by rw [hcs]; simpa using hl
  have hcc : ∀ j v, cs[j]? = some v → w.cell? ⟨g, j, none⟩ = some v := fun j v hj => by
    rw [cell_of_row _ g j _ _ _ hblk, ← hj, hcs]
    simp
  have h1c : ∀ v ∈ cs, v.oneCell' = true := by rw [hcs]; exact u64_one xs
  obtain ⟨i0, hi0, hz0, hzs, hzb⟩ := info_parts (show (Try.prog.info? 29).map (fun i => (i.zero, i.size, i.bytes)) = some (some (.int .u64 0), 1, 8) by kernel_rfl)
  have hsz : (Try.prog.info? 29).map (·.size) = some 1 := by kernel_rfl
  obtain ⟨k, hk⟩ : ∃ k, Hid (n + 1 - i = k) := ⟨_, rfl⟩
  have hik : i + k = n + 1 := by have := hk.out; omega
  have hold : (Builtin.firstCells i0.size i (.slice (some ⟨g, 0, none⟩) i n)).run Try.prog w.drew = .ok (cs.take i).toArray w.drew := by
    rw [hzs]
    exact run_firstCells_some w.drew 1 i ⟨g, 0, none⟩ i n (cs.take i) (by rw [List.length_take]; omega) (fun j v hj => by
      rw [Addr.add_lit, Nat.zero_add]
      rw [List.getElem?_take] at hj
      split at hj
      · exact hcc j v hj
      · cases hj)
  obtain ⟨G, hG⟩ : ∃ G, grownCap w (n + 1) n 29 = G := ⟨_, rfl⟩
  obtain ⟨ROW, hROW⟩ : ∃ ROW, (cs.take i).toArray ++ Builtin.zeroCells (Value.int .u64 0).cells k ++ Builtin.zeroCells (Value.int .u64 0).cells (G - (n + 1)) = ROW := ⟨_, rfl⟩
  have hrz : ∀ ty, (Builtin.append_ #[42, 3] ty #[.slice (some ⟨g, 0, none⟩) i n, .int .i64 ((n : Int) + 1 - (i : Int))]).run Try.prog w =
      .ok (.slice (some ⟨w.heap.size, 0, none⟩) (n + 1) G) (w.drew.alloc (.cells ROW 29)) := fun ty => by
    have h := Lib.run_append_grow_zeros w 42 3 ty 29 i0 _ .i64 .i64 Try.underlying42 Try.underlying3 hi0 hz0 (some ⟨g, 0, none⟩) i n (cs.take i) hold k (by omega) (by omega) (by omega) (by omega) (by rw [hzb]; omega) (by rw [hzb, hik]; exact growslice_fits (by omega) (by omega))
    rw [hik, hG, hROW] at h
    rw [show (n : Int) + 1 - (i : Int) = (k : Int) by omega]
    exact h
  have hGn : n + 1 ≤ G := by rw [← hG]; exact grownCap_ge w _ _ _
  have hG63 : G ≤ maxLen := by rw [← hG]; exact grownCap_le_maxLen w (n + 1) n 29 (by unfold maxLen; omega)
  have hRs : ROW.size = G := by
    rw [← hROW]
    simp [Builtin.zeroCells, Value.cells, hcl]
    omega
  obtain ⟨N, hN⟩ : ∃ N, w.heap.size = N := ⟨_, rfl⟩
  obtain ⟨W1, hW1⟩ : ∃ W1, (w.alloc (.cells ROW 29)).drew = W1 := ⟨_, rfl⟩
  have oN : W1.heap[N]? = some (.cells ROW 29 (0, 0)) := by rw [← hW1, ← hN]; exact heap_alloc_new w _
  have oO : ∀ b, b < N → W1.heap[b]? = w.heap[b]? := fun b hb => by rw [← hW1]; exact Below.heap_alloc w _ b (by omega)
  have hx1 : ∀ v ∈ [Value.int .u64 x], v.oneCell' = true := by simp [Value.oneCell']
  have hcpA : ∀ ty dc, (Builtin.copy_ #[42, 42] ty #[.slice (some ⟨N, i, none⟩) (n + 1 - i) dc, .slice (some ⟨vb, 0, none⟩) 1 1]).run Try.prog W1 = .ok (goInt 1) (W1.setCells N i [.int .u64 x]) := fun ty dc =>
    run_copy_cells W1 _ _ ty 29 N i (n + 1 - i) dc ⟨vb, 0, none⟩ 1 1 [.int .u64 x] Try.underlying42 hsz (by simp only [List.length_singleton, Nat.min_def]; split <;> omega)
      (fun j v hj => by
        rw [Addr.add_lit, World.cell?_of_block (a := ⟨vb, 0 + j, none⟩) (oO vb (by rw [← hN]; exact hv.lt)), hv.cell]
        simpa using hj)
      (fun j hj => by
        simp only [List.length_singleton] at hj
        rw [cell_of_row _ N _ _ _ _ oN, Array.getElem?_eq_getElem (by omega)]; rfl)
      (fun j hj => by unfold World.frozen?; rw [oN]; simp) hx1
  obtain ⟨W2, hW2⟩ : ∃ W2, (W1.setCells N i [.int .u64 x]).drew = W2 := ⟨_, rfl⟩
  have oA := setCells_obj [Value.int .u64 x] i _ _ oN
  have pN : W2.heap[N]? = some (.cells (wrote ROW i [.int .u64 x]) 29 (0, 0)) := by rw [← hW2]; exact oA.1
  have pO : ∀ b, b < N → W2.heap[b]? = w.heap[b]? := fun b hb => by
    rw [← oO b hb, ← hW2]
    refine oA.2.block b ?_ (by omega)
    rw [← hW1]
    show b < (w.alloc _).heap.size
    simp
    omega
  have hdl : (cs.drop i).length = n - i := by rw [List.length_drop, hcl]
  have hcpB : ∀ ty dc sc, (Builtin.copy_ #[42, 42] ty #[.slice (some ⟨N, i + 1, none⟩) (n + 1 - (i + 1)) dc, .slice (some ⟨g, i, none⟩) (n - i) sc]).run Try.prog W2 = .ok (goInt (cs.drop i).length) (W2.setCells N (i + 1) (cs.drop i)) := fun ty dc sc =>
    run_copy_cells W2 _ _ ty 29 N (i + 1) (n + 1 - (i + 1)) dc ⟨g, i, none⟩ (n - i) sc (cs.drop i) Try.underlying42 hsz (by rw [hdl]; simp only [Nat.min_def]; split <;> omega)
      (fun j v hj => by
        rw [Addr.add_lit, World.cell?_of_block (a := ⟨g, i + j, none⟩) (pO g (by omega))]
        exact hcc (i + j) v (by rwa [List.getElem?_drop] at hj))
      (fun j hj => by
        have : i + 1 + j < (wrote ROW i [.int .u64 x]).size := by rw [wrote_size]; omega
        rw [cell_of_row _ N _ _ _ _ pN, Array.getElem?_eq_getElem this]; rfl)
      (fun j hj => by unfold World.frozen?; rw [pN]; simp) (fun v hv => h1c v (List.mem_of_mem_drop hv))
  have hend : Hid (Inserted base w (.slice (some ⟨g, 0, none⟩) n n) n (ins xs i x) (.returned (.slice (some ⟨N, 0, none⟩) (n + 1) G)) (W2.setCells N (i + 1) (cs.drop i))) := by
    have oB := setCells_obj (cs.drop i) (i + 1) _ _ pN
    have hos : w.os = W2.os ∧ w.tape = W2.tape ∧ w.output = W2.output ∧ w.heap.size ≤ W2.heap.size := by
      rw [← hW2]
      have a1 := oA.2.os
      have a2 := oA.2.tape
      have a3 := oA.2.output
      have a4 := oA.2.size
      rw [← hW1] at a1 a2 a3 a4 ⊢
      exact ⟨a1.symm, a2.symm, a3.symm, Nat.le_trans (by show _ ≤ (w.alloc _).heap.size; simp) a4⟩
    refine ⟨_, rfl, ⟨by rw [List.length_map, ins_len xs i x (by omega)]; omega, .inr ⟨N, G, _, rfl, by omega, oB.1, hGn, hG63, by rw [wrote_size, wrote_size]; omega, ?_⟩⟩, ⟨oB.2.os.trans hos.1.symm, oB.2.tape.trans hos.2.1.symm, oB.2.output.trans hos.2.2.1.symm, Nat.le_trans hos.2.2.2 oB.2.size, fun b hb _ => ?_⟩, .inr (by rw [hN]; rfl)⟩
    · apply List.ext_getElem?
      intro j
      have e1 : (wrote (wrote ROW i [.int .u64 x]) (i + 1) (cs.drop i)).toList[j]? = (wrote (wrote ROW i [.int .u64 x]) (i + 1) (cs.drop i))[j]? := by simp
      rw [List.getElem?_take]
      by_cases hj : j < (n + 1) * 1
      · rw [if_pos hj, e1, wrote_get _ _ _ _ (by rw [wrote_size, hdl]; omega), wrote_get _ _ _ _ (by simp; omega)]
        simp only [List.length_singleton]
        rw [ins_map, ← hcs, mid_get _ _ _ _ (by omega)]
        by_cases h1 : j < i
        · rw [if_pos h1, if_neg (by omega), if_neg (by omega), ← hROW, Array.getElem?_append_left (by simp; omega), Array.getElem?_append_left (by simp; omega), List.getElem?_toArray, List.getElem?_take, if_pos h1]
        · by_cases h2 : j = i
          · subst h2
            rw [if_neg h1, if_pos rfl, if_neg (by omega), if_pos (by omega), Nat.sub_self]
            rfl
          · rw [if_neg h1, if_neg h2, if_pos (by omega), List.getElem?_drop]
            congr 1
            omega
      · rw [if_neg hj]
        exact (List.getElem?_eq_none (by rw [List.length_map, ins_len xs i x (by omega)]; omega)).symm
    · rw [oB.2.block b (by omega) (by omega)]
      exact pO b (by omega)
  have hw1 : (0 : Int) ≤ (i : Int) + 1 := by omega
  have hwr : IntKind.i64.wrap ((i : Int) + 1) = (i : Int) + 1 := by rw [IntKind.wrap_i64]; omega
  have hGi : ¬ G = i := by omega
  have hGi1 : ¬ G = i + 1 := by omega
  have hni : ¬ n = i := by omega
  have hne : ¬ (i : Int) = (n : Int) := by omega
  have hgt : (n : Int) < (n : Int) + 1 := by omega
  have hin : (i : Int) ≤ (n : Int) := by omega
  have htn : ((i : Int) + 1).toNat = i + 1 := by omega
  have hiN : i ≤ n := by omega
  unfold maxLen at hG63
  have HG63 := hide hG63
  rw [hN] at hrz
  have hW0 : w.drew.alloc (.cells ROW 29) = W1 := hW1
  rw [hW0] at hrz
  have HN := hide hN
  clear hN hW0 hcc h1c hi0 hz0 hzs hzb hsz hold hG hROW oN oO hx1 oA pN pO hdl hRs hgw hblk hk hik hcl hcs hv
  subst hW2
  go_enter Try.func30, Try.ntmps30
  go_wp2_with (first
    | (at_builtin; refine Lib.wpList_append_run _ rfl _ _ _ _ rfl _ _ rfl rfl _ _ (hrz _) ?_)
    | (at_builtin; refine wpList_copy_eq rfl _ _ 42 42 rfl _ _ rfl rfl (hcpA _ _) ?_))
  go_region_law (refine step_copy_eq rfl _ _ 42 42 rfl (.slice (some ⟨N, i + 1, none⟩) (n + 1 - (i + 1)) (G - (i + 1))) (.slice (some ⟨g, i, none⟩) (n - i) (n - i)) (by simp [Act.eval, Act.put]) (by simp [Act.eval, Act.put]) (hcpB _ _ _) ?_)
  go_wp2
  go_ret
  exact hend.out

set_option maxRecDepth 100000 in
set_option maxHeartbeats 2000000 in
theorem insert_room (base : Nat) (xs : List Int) (g n c i : Nat) (x : Int) (w : World) (vb : Nat) (hown : w.ownsRow base 29 1 (.slice (some ⟨g, 0, none⟩) n c) n (xs.map (Value.int .u64))) (hv : OAt w vb (.cells #[.int .u64 x] 29)) (hvg : vb ≠ g) (hi : i < n) (hc : n + 1 ≤ c) (hn : n ≤ 4294967296) :
    Calls Try.prog 30 #[.slice (some ⟨g, 0, none⟩) n c, .int .i64 i, .slice (some ⟨vb, 0, none⟩) 1 1] w (Inserted base w (.slice (some ⟨g, 0, none⟩) n c) n (ins xs i x)) := by
  have hl : xs.length = n := by have := hown.1; simpa using this
  have hgw : g < w.heap.size := (hown.lt g rfl).2
  obtain ⟨cs, hcs⟩ : ∃ cs, cs = xs.map (Value.int .u64) := ⟨_, rfl⟩
  have hblk : ∃ cur, w.heap[g]? = some (.cells cur 29 (0, 0)) ∧ cur.size = c ∧ base ≤ g ∧ c ≤ maxLen ∧ cur.toList.take n = cs := by
    rcases hown.2 with ⟨h, _⟩ | ⟨g', cap', cur, h, h1, hbb, _, h2, hcc, hct⟩
    · cases h
    · cases h
      exact ⟨cur, hbb, by omega, h1, h2, by rw [hcs, ← hct, Nat.mul_one]⟩
  obtain ⟨cur, hbb, hcur, hbg, hcm, hct⟩ := hblk
  clear hown
  have hcl : cs.length = n := by rw [hcs]; simpa using hl
  have hcc : ∀ j v, cs[j]? = some v → w.cell? ⟨g, j, none⟩ = some v := fun j v hj => by
    have hj' : j < n := by have := (List.getElem?_eq_some_iff.1 hj).1; omega
    rw [cell_of_row _ g j _ _ _ hbb, ← hj, ← hct, List.getElem?_take, if_pos hj']
    simp
  have h1c : ∀ v ∈ cs, v.oneCell' = true := by rw [hcs]; exact u64_one xs
  have hsz : (Try.prog.info? 29).map (·.size) = some 1 := by kernel_rfl
  have hx1 : ∀ v ∈ [Value.int .u64 x], v.oneCell' = true := by simp [Value.oneCell']
  have hov : ∀ lb cb, (callFunc 33 #[.slice (some ⟨vb, 0, none⟩) 1 1, .slice (some ⟨g, i + 1, none⟩) lb cb]).run Try.prog w = .ok (.value (.bool false)) w := fun lb cb => by
    rw [run_callFunc_extern Try.func33 (by kernel_rfl) (by kernel_rfl) (by kernel_rfl) (e := Extern.SlicesOverlaps.overlaps #[42, 42] #[4]) (by kernel_rfl),
      Lib.run_overlaps_apart w 42 4 29 Try.underlying42 1 (fun w => by rfl) ⟨vb, 0, none⟩ ⟨g, i + 1, none⟩ 1 1 lb cb hvg 29 29 1 c ?_ ?_ (by omega) ?_ ?_]
    · rfl
    · unfold World.shape?; rw [hv.at_]; rfl
    · unfold World.shape?; rw [hbb]; simp [hcur]
    · unfold World.frozen?; rw [hv.at_]; simp
    · unfold World.frozen?; rw [hv.at_]; simp
  have hdl : (cs.drop i).length = n - i := by rw [List.length_drop, hcl]
  have hcp1 : ∀ ty dc sc, (Builtin.copy_ #[42, 42] ty #[.slice (some ⟨g, i + 1, none⟩) (n + 1 - (i + 1)) dc, .slice (some ⟨g, i, none⟩) (n + 1 - i) sc]).run Try.prog w.drew = .ok (goInt (cs.drop i).length) (w.drew.setCells g (i + 1) (cs.drop i)) := fun ty dc sc =>
    run_copy_cells w.drew _ _ ty 29 g (i + 1) (n + 1 - (i + 1)) dc ⟨g, i, none⟩ (n + 1 - i) sc (cs.drop i) Try.underlying42 hsz (by rw [hdl]; simp only [Nat.min_def]; split <;> omega)
      (fun j v hj => by rw [Addr.add_lit]; exact hcc (i + j) v (by rwa [List.getElem?_drop] at hj))
      (fun j hj => by
        have hj2 : i + 1 + j < cur.size := by omega
        rw [cell_of_row w.drew g _ cur 29 (0, 0) hbb, Array.getElem?_eq_getElem hj2]; rfl)
      (fun j hj => by unfold World.frozen?; rw [show w.drew.heap = w.heap from rfl, hbb]; simp) (fun v hv => h1c v (List.mem_of_mem_drop hv))
  obtain ⟨W1, hW1⟩ : ∃ W1, w.drew.setCells g (i + 1) (cs.drop i) = W1 := ⟨_, rfl⟩
  have oA := setCells_obj (cs.drop i) (i + 1) cur w.drew (show w.drew.heap[g]? = _ from hbb)
  rw [hW1] at oA hcp1
  have hcp2 : ∀ ty dc, (Builtin.copy_ #[42, 42] ty #[.slice (some ⟨g, i, none⟩) (n + 1 - i) dc, .slice (some ⟨vb, 0, none⟩) 1 1]).run Try.prog W1 = .ok (goInt 1) (W1.setCells g i [.int .u64 x]) := fun ty dc =>
    run_copy_cells W1 _ _ ty 29 g i (n + 1 - i) dc ⟨vb, 0, none⟩ 1 1 [.int .u64 x] Try.underlying42 hsz (by simp only [List.length_singleton, Nat.min_def]; split <;> omega)
      (fun j v hj => by
        rw [Addr.add_lit, World.cell?_of_block (a := ⟨vb, 0 + j, none⟩) (oA.2.block vb hv.lt hvg)]
        exact (hv.cell _).trans (by simpa using hj))
      (fun j hj => by
        simp only [List.length_singleton] at hj
        rw [cell_of_row _ g _ _ _ _ oA.1, Array.getElem?_eq_getElem (by rw [wrote_size]; omega)]; rfl)
      (fun j hj => by unfold World.frozen?; rw [oA.1]; simp) hx1
  have hend : Hid (Inserted base w (.slice (some ⟨g, 0, none⟩) n c) n (ins xs i x) (.returned (.slice (some ⟨g, 0, none⟩) (n + 1) c)) (W1.setCells g i [.int .u64 x])) := by
    have oB := setCells_obj [Value.int .u64 x] i _ _ oA.1
    refine ⟨_, rfl, ⟨by rw [List.length_map, ins_len xs i x (by omega)]; omega, .inr ⟨g, c, _, rfl, hbg, oB.1, hc, hcm, by rw [wrote_size, wrote_size]; omega, ?_⟩⟩, ⟨oB.2.os.trans oA.2.os, oB.2.tape.trans oA.2.tape, oB.2.output.trans oA.2.output, Nat.le_trans oA.2.size oB.2.size, fun b hb hbr => ?_⟩, .inl rfl⟩
    · apply List.ext_getElem?
      intro j
      rw [List.getElem?_take]
      by_cases hj : j < (n + 1) * 1
      · have e1 : (wrote (wrote cur (i + 1) (cs.drop i)) i [.int .u64 x]).toList[j]? = (wrote (wrote cur (i + 1) (cs.drop i)) i [.int .u64 x])[j]? := by simp
        rw [if_pos hj, e1, wrote_get _ _ _ _ (by rw [wrote_size]; simp; omega), wrote_get _ _ _ _ (by rw [hdl]; omega)]
        simp only [List.length_singleton]
        rw [ins_map, ← hcs, mid_get _ _ _ _ (by omega)]
        by_cases h1 : j < i
        · rw [if_pos h1, if_neg (by omega), if_neg (by omega), ← hct, List.getElem?_take, if_pos (by omega)]
          simp
        · by_cases h2 : j = i
          · subst h2
            rw [if_neg h1, if_pos rfl, if_pos (by omega), Nat.sub_self]
            rfl
          · rw [if_neg h1, if_neg h2, if_neg (by omega), if_pos (by omega), List.getElem?_drop]
            congr 1
            omega
      · rw [if_neg hj]
        exact (List.getElem?_eq_none (by rw [List.length_map, ins_len xs i x (by omega)]; omega)).symm
    · have hbg2 : b ≠ g := fun e => hbr (by rw [e]; rfl)
      rw [oB.2.block b (Nat.lt_of_lt_of_le hb oA.2.size) hbg2]
      exact oA.2.block b hb hbg2
  have hw1 : (0 : Int) ≤ (i : Int) + 1 := by omega
  have hwr : IntKind.i64.wrap ((i : Int) + 1) = (i : Int) + 1 := by rw [IntKind.wrap_i64]; omega
  have hGi : ¬ c = i := by omega
  have hGi1 : ¬ c = i + 1 := by omega
  have hne : ¬ (i : Int) = (n : Int) := by omega
  have hgt : ¬ (c : Int) < (n : Int) + 1 := by omega
  have hin : (i : Int) ≤ (n : Int) := by omega
  have hin1 : (i : Int) ≤ (n : Int) + 1 := by omega
  have htn : ((i : Int) + 1).toNat = i + 1 := by omega
  have hiN : i ≤ n := by omega
  unfold maxLen at hcm
  clear hcc h1c hsz oA hdl hgw hbb hcl hcs hv hct hcur hbg hx1
  go_enter Try.func30, Try.ntmps30
  go_wp2_with (simp only [hov])
  go_region_law (refine step_copy_eq rfl _ _ 42 42 rfl (.slice (some ⟨g, i + 1, none⟩) (n + 1 - (i + 1)) (c - (i + 1))) (.slice (some ⟨g, i, none⟩) (n + 1 - i) (c - i)) (by simp [Act.eval, Act.put]) (by simp [Act.eval, Act.put]) (hcp1 _ _ _) ?_)
  go_wp2_with (at_builtin; refine wpList_copy_eq rfl _ _ 42 42 rfl _ _ rfl rfl (hcp2 _ _) ?_)
  go_ret
  exact hend.out

theorem insert_any (base : Nat) (xs : List Int) (v : Value) (n i : Nat) (x : Int) (w : World) (vb : Nat) (hown : w.ownsRow base 29 1 v n (xs.map (Value.int .u64))) (hv : OAt w vb (.cells #[.int .u64 x] 29)) (hvg : v.ownBlock ≠ some vb) (hi : i ≤ n) (hn : n ≤ 4294967296) (hb : base ≤ w.heap.size) :
    Calls Try.prog 30 #[v, .int .i64 i, .slice (some ⟨vb, 0, none⟩) 1 1] w (Inserted base w v n (ins xs i x)) := by
  by_cases h : i = n
  · subst h
    exact insert_end base xs v i x w vb hown hv hn hb
  · rcases hown.2 with ⟨rfl, rfl⟩ | ⟨g, c, cur, rfl, _, _, hnc, _⟩
    · omega
    · by_cases hc : n + 1 ≤ c
      · exact insert_room base xs g n c i x w vb hown hv (fun e => hvg (by rw [e]; rfl)) (by omega) hc hn
      · obtain rfl : c = n := by omega
        exact insert_grow base xs g c i x w vb hown hv (by omega) hn hb
end Go.Proofs.Ytfkabmgbcdoijaa

/-
  two groups have together what each of them has (ConfigParts is true of every input of bulk at most 1048576).
-/
import Derived.Test.YtlgmpjjamfdgkaaRows
import Derived.WalkKit
import Derived.Below
import Derived.ProofKit
import Derived.OpenShut
import Derived.ShutString
import Derived.ChangeOld
import Derived.JoinedCond
import Derived.Test.YtlgmpjjamfdgkaaBulk
import Derived.Test.YtlgmpjjamfdgkaaCfMay
import Derived.Test.YtlgmpjjamfdgkaaRowLaws
import Derived.Deep.RegionHeld3
namespace Go.Proofs.Ytlgmpjjamfdgkaa.configParts
open Go.ChangeShapes Go.WideShapes Go.ChangeAt Go.RowKit
set_option linter.unusedVariables false

theorem own : ownKnob Try.prog.godebug = none := by kernel_rfl
theorem laidOut : laidOutB Try.prog = true := by kernel_rfl
theorem cells3 : Try.prog.cellsOf 3 = 1 := by kernel_rfl
theorem cells4 : Try.prog.cellsOf 4 = 1 := by kernel_rfl
theorem cells22 : Try.prog.cellsOf 22 = 1 := by kernel_rfl
theorem cells24 : Try.prog.cellsOf 24 = 3 := by kernel_rfl
theorem cells25 : Try.prog.cellsOf 25 = 1 := by kernel_rfl
theorem cells27 : Try.prog.cellsOf 27 = 1 := by kernel_rfl
theorem list3 {α : Type _} {l : List α} (h : l.length = 3) : ∃ x0 x1 x2, l = [x0, x1, x2] := by
  match l, h with
  | [x0, x1, x2], _ => exact ⟨x0, x1, x2, rfl⟩
theorem infoI : (Try.prog.info? 3).map (fun i => (i.zero, i.size, i.bytes)) = some (some (.int .i64 0), 1, 8) := by kernel_rfl
theorem sums_b (bs : List Int) : ∀ (l : List Int) (x : Int), 0 ≤ x ∧ x < 18446744073709551616 →
    l.foldl (fun (a v : Int) => if 0 ≤ v ∧ v < bs.length then (a + bs.getD v.toNat 0) % 18446744073709551616 else a) x =
      (x + l.foldl (fun (a v : Int) => if 0 ≤ v ∧ v < bs.length then (a + bs.getD v.toNat 0) % 18446744073709551616 else a) 0) % 18446744073709551616
  | [], x, h => by simp only [List.foldl_nil]; omega
  | v :: l, x, h => by
    simp only [List.foldl_cons]
    by_cases c : 0 ≤ v ∧ v < bs.length
    · rw [if_pos c, if_pos c, sums_b bs l _ (by omega), sums_b bs l ((0 + bs.getD v.toNat 0) % 18446744073709551616) (by omega)]
      omega
    · rw [if_neg c, if_neg c, sums_b bs l x h]
theorem sums_append (bs xs ys : List Int) : sums bs (xs ++ ys) = IntKind.u64.wrap (sums bs xs + sums bs ys) := by
  have h := sums_b bs xs 0 (by omega)
  rw [Int.zero_add] at h
  rw [IntKind.wrap_u64, sums, List.foldl_append, sums_b bs ys]
  · rfl
  · rw [h]; omega

set_option maxHeartbeats 1000000 in
theorem walk (a0_0 : Option Addr) (len0_0 cap0_0 : Nat) (z0_0 : List Int) (a0_1 : Int) (a0_2 : Int) (a1 : Option Addr) (len1 cap1 : Nat) (z1 : List Int) (a2 : Option Addr) (len2 cap2 : Nat) (z2 : List Int) (w : World) (w0_0 : IsRow .u64 w a0_0 len0_0 cap0_0 z0_0) (w0_1 : (Lit.int .i64 a0_1).wf = true) (w0_2 : (Lit.int .i64 a0_2).wf = true) (w1 : IsRow .i64 w a1 len1 cap1 z1) (w2 : IsRow .i64 w a2 len2 cap2 z2) (hbulk : cap0_0 + cap1 + cap2 ≤ 1048576) :
    Calls Try.prog 5 #[.agg #[.slice a0_0 len0_0 cap0_0, .int .i64 a0_1, .int .i64 a0_2], .slice a1 len1 cap1, .slice a2 len2 cap2] w fun e w' => e = .returned (.bool true) ∧ Below w.heap.size w w' := by
  have hB := w0_0.row
  have hX := w1.row
  have hY := w2.row
  clear w0_0 w0_1 w0_2 w1 w2
  generalize z0_0.take len0_0 = bs at *
  generalize z1.take len1 = xs at *
  generalize z2.take len2 = ys at *
  have hc := hB.cap
  have hxc := hX.cap
  have hyc := hY.cap
  unfold maxLen at hc hxc hyc
  have HB := hide (hB.alloc (cfg a0_0 len0_0 cap0_0 a0_1 a0_2))
  have HX := hide (hX.alloc (cfg a0_0 len0_0 cap0_0 a0_1 a0_2))
  have HY := hide (hY.alloc (cfg a0_0 len0_0 cap0_0 a0_1 a0_2))
  clear hB hX hY
  obtain ⟨i0, hi, hz0, hz1, hz2⟩ := info_parts infoI
  go_enter Try.func5, Try.ntmps5
  go_wp2_with fail
  refine (awake_any _).mono ?_
  rintro e w1 ⟨rfl, hbel⟩
  have c0 : w1.cell? ⟨w.heap.size, 0, none⟩ = some (.slice a0_0 len0_0 cap0_0) := by rw [hbel.cell (p := ⟨w.heap.size, 0, none⟩) (by simp)]; simp [go_sem]
  have c1 : w1.cell? ⟨w.heap.size, 1, none⟩ = some (.int .i64 a0_1) := by rw [hbel.cell (p := ⟨w.heap.size, 1, none⟩) (by simp)]; simp [go_sem]
  have c2 : w1.cell? ⟨w.heap.size, 2, none⟩ = some (.int .i64 a0_2) := by rw [hbel.cell (p := ⟨w.heap.size, 2, none⟩) (by simp)]; simp [go_sem]
  have HB1 := hide (HB.out.below hbel)
  have HX1 := hide (HX.out.below hbel)
  have HY1 := hide (HY.out.below hbel)
  have HN := hide ((below_cfg w (cfg a0_0 len0_0 cap0_0 a0_1 a0_2)).trans (hbel.mono (by simp)))
  have hs : w.heap.size < w1.heap.size := by have := hbel.size; simp at this; omega
  have hcs : Hid (∀ w', Below w1.heap.size w1 w' → w'.cell? ⟨w.heap.size, 0, none⟩ = some (.slice a0_0 len0_0 cap0_0) ∧ w'.cell? ⟨w.heap.size, 1, none⟩ = some (.int .i64 a0_1) ∧ w'.cell? ⟨w.heap.size, 2, none⟩ = some (.int .i64 a0_2)) :=
    fun w' h => ⟨(h.cell (p := ⟨w.heap.size, 0, none⟩) hs).trans c0, (h.cell (p := ⟨w.heap.size, 1, none⟩) hs).trans c1, (h.cell (p := ⟨w.heap.size, 2, none⟩) hs).trans c2⟩
  clear HB HX HY hbel
  have hs1 : w1.heap.size ≤ w1.drew.heap.size := Nat.le_refl _
  have hb1d : Hid (Below w1.heap.size w1 w1.drew) := (Below.refl _ _).drew
  have HX1d : Hid (RowIn .i64 w1.drew a1 len1 cap1 xs) := HX1.out.below hb1d.out
  have hsum : Hid (sums bs (xs ++ ys) = IntKind.u64.wrap (sums bs xs + sums bs ys)) := sums_append bs xs ys
  obtain ⟨sx, hsx⟩ : ∃ n, Hid (sums bs xs = n) := ⟨_, rfl⟩
  obtain ⟨sy, hsy⟩ : ∃ n, Hid (sums bs ys = n) := ⟨_, rfl⟩
  rw [hsx.out, hsy.out] at hsum
  go_wp2
  go_region_held3 (fun w' => w'.cell? ⟨w.heap.size, 0, none⟩ = some (.slice a0_0 len0_0 cap0_0) ∧ w'.cell? ⟨w.heap.size, 1, none⟩ = some (.int .i64 a0_1) ∧ w'.cell? ⟨w.heap.size, 2, none⟩ = some (.int .i64 a0_2))
    (first
      | go_keep
      | exact hcs.out _ hb2.out
      | exact hcs.out _ hb3.out)
    (first
      | (refine step_append_rows rfl (.const (.slice none 0 0)) (.tmp 10) 25 rfl w1.heap.size 3 i0 .i64 (.int .i64 0) 8 Try.underlying25 hi hz0 hz1 hz2 rfl (.slice none 0 0) 0 [] rfl (World.ownsRow_nil _ _ _ _) a1 len1 cap1 xs rfl HX1d.out (by unfold maxLen; omega) (by omega) hs1 ?_
         intro ao2 d2 w2 hown2 hgrow2
         rw [Nat.zero_add]
         rw [Nat.zero_add, List.nil_append] at hown2
         have hb2 : Hid (Below w1.heap.size w1 w2) := hb1d.out.grown hgrow2 (Nat.le_refl _) (fun k h => by cases h)
         have H2 := hide (hown2)
         clear hown2 hgrow2)
      | (refine step_append_rows rfl (.tmp 11) (.tmp 12) 25 rfl w1.heap.size 3 i0 .i64 (.int .i64 0) 8 Try.underlying25 hi hz0 hz1 hz2 rfl (.slice ao2 len1 d2) len1 xs rfl H2.out a2 len2 cap2 ys rfl (HY1.out.below hb2.out) (by unfold maxLen; omega) (by omega) hb2.out.size ?_
         intro ao3 d3 w3 hown3 hgrow3
         have hb3 : Hid (Below w1.heap.size w1 w3) := hb2.out.grown hgrow3 hb2.out.size (fun k h => (H2.out.lt k h).1)
         have H3 := hide (hown3)
         have hs3 : w.heap.size < w3.heap.size := Nat.lt_of_lt_of_le hs hb3.out.size
         clear hown3 hgrow3)
      | (go_at_call_of 8 (Value.slice ao3 (len1 + len2) d3)
         obtain ⟨ao6, c6, e6, R6⟩ := RowIn.ofOwned H3.out
         cases e6
         refine (sum_any bs (xs ++ ys) _ _ _ _ _ _ _ _ _ (HB1.out.below hb3.out) R6).mono ?_
         rintro e w4 ⟨rfl, rfl⟩
         rw [hsum.out]
         clear R6)
      | (go_at_call_of 8 (Value.slice a1 len1 cap1)
         refine (sum_any bs xs _ _ _ _ _ _ _ _ _ ((HB1.out.below hb3.out).alloc _) ((HX1.out.below hb3.out).alloc _)).mono ?_
         rintro e w5 ⟨rfl, rfl⟩
         rw [hsx.out])
      | (go_at_call_of 8 (Value.slice a2 len2 cap2)
         refine (sum_any bs ys _ _ _ _ _ _ _ _ _ (((HB1.out.below hb3.out).alloc _).alloc _) (((HY1.out.below hb3.out).alloc _).alloc _)).mono ?_
         rintro e w6 ⟨rfl, rfl⟩
         rw [hsy.out]))
  all_goals
    go_wp2
    go_ret
    exact ⟨rfl, (((HN.out.trans (hb3.out.mono (by omega))).trans ((below_cfg _ _).mono (by omega))).trans ((below_cfg _ _).mono (by simp <;> omega))).trans ((below_cfg _ _).mono (by simp <;> omega))⟩

set_option maxRecDepth 100000 in
theorem lifted (os : Os) (started : os.Started) (H : Type) (enc : TypeId × Value → H) (F : Stop.Interp) :
    ReturnsInHanded {} Try.checked os 5 .any ((Rows.OpenSpec.upto Rows.configPartsSpec).pre6 enc Try.prog Try.f5 Rows.configPartsUptoRow.domain false) (((Rows.OpenSpec.upto Rows.configPartsSpec).at F).post enc Try.prog Try.f5 false true false false) := by
  refine returnsInHanded_of_cond (C := Try.checked) (s := Rows.OpenSpec.upto Rows.configPartsSpec) (k := Rows.uptoSmall) rfl own started (by kernel_rfl) Try.func5
    (OpenSpec.witness (enc := enc) (C := Try.checked) (s := Rows.OpenSpec.upto Rows.configPartsSpec) (k := Rows.uptoSmall) rfl false ⟨#[], #[.agg #[.slice none 0 0, .int .i64 0, .int .i64 0], .slice none 0 0, .slice none 0 0], []⟩ 8 (by kernel_rfl) (by kernel_rfl) (by kernel_rfl)
      (x := ([.agg [.nil, .lit (.int .i64 0), .lit (.int .i64 0)], .nil, .nil], [], [])) (by kernel_rfl) rfl (by kernel_rfl)) ?_
  intro W base args ds gs before hval0 hW hcnd hk _
  have hval : ∀ (j : Nat) t v, Try.f5.params[j]? = some t → args[j]? = some v → Value.okWide Try.prog W .any base t v := hval0
  have hW' := hW
  obtain ⟨p, q, hA0, hV, rfl, hfz, hnd⟩ := hW
  have hA : DataW.TrodAll enc Try.prog W 0 (fun _ => true) true Try.f5.params.toList args.toList ds p := hA0
  rw [Try.params5] at hA hval
  obtain ⟨v0, vs0, d0, ds0, p0, q0, hargs, rfl, rfl, h0, r0⟩ := trodAll_cons hA
  obtain ⟨v1, vs1, d1, ds1, p1, q1, rfl, rfl, rfl, h1, r1⟩ := trodAll_cons r0
  obtain ⟨v2, vs2, d2, ds2, p2, q2, rfl, rfl, rfl, h2, r2⟩ := trodAll_cons r1
  obtain ⟨rfl, rfl, rfl⟩ := trodAll_nil r2
  obtain rfl : args = #[v0, v1, v2] := by cases args; simp_all
  obtain ⟨rfl, rfl⟩ := trodVars_none hV
  obtain ⟨cs0, rfl, sz0⟩ := okWide_struct Try.underlying24 (hval 0 24 v0 rfl rfl)
  rw [cells24] at sz0
  obtain ⟨l0⟩ := cs0
  obtain ⟨c0_0, c0_1, c0_2, rfl⟩ := list3 (show l0.length = 3 from sz0)
  clear sz0
  have k0 := h0
  have lt0 : ∀ x ∈ p0, x.block < W.heap.size := by obtain ⟨m, hm⟩ := k0; exact DataW.trod_lt m _ _ _ hm
  obtain ⟨fuel0, hf0⟩ := h0
  simp only [Value.cells] at hf0
  obtain ⟨xs0_0t24, n0_0t24, _, hx0_0t24, _, hlen0_0t24, hf0_0t24⟩ := DataW.trod_struct Try.underlying24 hf0
  obtain ⟨y0_0t24_0, y0_0t24_1, y0_0t24_2, rfl⟩ := list3 (show xs0_0t24.length = 3 from hlen0_0t24)
  have hy0_0t24_0 : DataW.trod enc Try.prog W 0 (fun _ => true) true n0_0t24 22 [c0_0] = some y0_0t24_0 := by simpa [Value.cells, cells3, cells4, cells22, cells24, cells25, cells27] using hf0_0t24 0 _ rfl
  have hy0_0t24_1 : DataW.trod enc Try.prog W 0 (fun _ => true) true n0_0t24 3 [c0_1] = some y0_0t24_1 := by simpa [Value.cells, cells3, cells4, cells22, cells24, cells25, cells27] using hf0_0t24 1 _ rfl
  have hy0_0t24_2 : DataW.trod enc Try.prog W 0 (fun _ => true) true n0_0t24 3 [c0_2] = some y0_0t24_2 := by simpa [Value.cells, cells3, cells4, cells22, cells24, cells25, cells27] using hf0_0t24 2 _ rfl
  obtain ⟨a0_0, len0_0, cap0_0, z0_0, e0_0, w0_0, b0_0⟩ : ∃ a len cap zs, c0_0 = .slice a len cap ∧ IsRow .u64 W a len cap zs ∧ cap + 1 ≤ Rows.uptoBulk (y0_0t24_0).1 := by
    rcases open_ints Try.underlying22 Try.underlying27 (by kernel_rfl) hy0_0t24_0 with ⟨hcs, hxx⟩ | ⟨x, l, c, zs, hcs, _, hl, hm, hz, hxx, hcell, hwz⟩
    · simp at hcs
      exact ⟨none, 0, 0, [], hcs, .inl ⟨rfl, rfl, rfl, rfl⟩, by rw [hxx]; simp [Rows.uptoBulk]⟩
    · simp at hcs
      refine ⟨_, _, _, zs, hcs, .inr ⟨_, rfl, hl, hm, by simpa using hz, hcell, hwz⟩, ?_⟩
      have hzz : zs.length = c := by simpa using hz
      rw [hxx]
      have hs3 := bulks.slice_le (lits (H := H) .u64 (zs.take l)) (lits .u64 (zs.drop l))
      simp only [lits, List.length_map, List.length_take, List.length_drop] at hs3
      simp only [lits]
      omega
  subst e0_0
  obtain ⟨a0_1, e0_1, x0_1, w0_1⟩ := DataW.trod_int Try.underlying3 hy0_0t24_1
  simp at e0_1
  subst e0_1
  obtain ⟨a0_2, e0_2, x0_2, w0_2⟩ := DataW.trod_int Try.underlying3 hy0_0t24_2
  simp at e0_2
  subst e0_2
  have b0_0t24 : cap0_0 + 1 ≤ Rows.uptoBulk d0 := by
    rw [(Prod.mk.inj hx0_0t24).1]
    simp only [List.map, Rows.uptoBulk, Rows.uptoBulkAll]
    omega
  obtain ⟨a1, len1, cap1, rfl⟩ := okWide_slice Try.underlying25 (hval 1 25 v1 rfl rfl)
  have k1 := h1
  have lt1 : ∀ x ∈ p1, x.block < W.heap.size := by obtain ⟨m, hm⟩ := k1; exact DataW.trod_lt m _ _ _ hm
  obtain ⟨z1, w1, b1⟩ : ∃ zs, IsRow .i64 W a1 len1 cap1 zs ∧ cap1 + 1 ≤ Rows.uptoBulk d1 := by
    obtain ⟨fuel, hf⟩ := h1
    rcases open_ints Try.underlying25 Try.underlying3 (by kernel_rfl) hf with ⟨hcs, hxx⟩ | ⟨x, l, c, zs, hcs, _, hl, hm, hz, hxx, hcell, hwz⟩
    · simp [Value.cells] at hcs
      obtain ⟨rfl, rfl, rfl⟩ := hcs
      exact ⟨[], .inl ⟨rfl, rfl, rfl, rfl⟩, by rw [(Prod.mk.inj hxx).1]; simp [Rows.uptoBulk]⟩
    · simp [Value.cells] at hcs
      obtain ⟨rfl, rfl, rfl⟩ := hcs
      refine ⟨zs, .inr ⟨_, rfl, hl, hm, by simpa using hz, hcell, hwz⟩, ?_⟩
      have hzz : zs.length = cap1 := by simpa using hz
      rw [(Prod.mk.inj hxx).1]
      have hs3 := bulks.slice_le (lits (H := H) .i64 (zs.take len1)) (lits .i64 (zs.drop len1))
      simp only [lits, List.length_map, List.length_take, List.length_drop] at hs3
      simp only [lits]
      omega
  obtain ⟨a2, len2, cap2, rfl⟩ := okWide_slice Try.underlying25 (hval 2 25 v2 rfl rfl)
  have k2 := h2
  have lt2 : ∀ x ∈ p2, x.block < W.heap.size := by obtain ⟨m, hm⟩ := k2; exact DataW.trod_lt m _ _ _ hm
  obtain ⟨z2, w2, b2⟩ : ∃ zs, IsRow .i64 W a2 len2 cap2 zs ∧ cap2 + 1 ≤ Rows.uptoBulk d2 := by
    obtain ⟨fuel, hf⟩ := h2
    rcases open_ints Try.underlying25 Try.underlying3 (by kernel_rfl) hf with ⟨hcs, hxx⟩ | ⟨x, l, c, zs, hcs, _, hl, hm, hz, hxx, hcell, hwz⟩
    · simp [Value.cells] at hcs
      obtain ⟨rfl, rfl, rfl⟩ := hcs
      exact ⟨[], .inl ⟨rfl, rfl, rfl, rfl⟩, by rw [(Prod.mk.inj hxx).1]; simp [Rows.uptoBulk]⟩
    · simp [Value.cells] at hcs
      obtain ⟨rfl, rfl, rfl⟩ := hcs
      refine ⟨zs, .inr ⟨_, rfl, hl, hm, by simpa using hz, hcell, hwz⟩, ?_⟩
      have hzz : zs.length = cap2 := by simpa using hz
      rw [(Prod.mk.inj hxx).1]
      have hs3 := bulks.slice_le (lits (H := H) .i64 (zs.take len2)) (lits .i64 (zs.drop len2))
      simp only [lits, List.length_map, List.length_take, List.length_drop] at hs3
      simp only [lits]
      omega
  have hbulk : cap0_0 + cap1 + cap2 ≤ 1048576 := by
    have hk3 := of_decide_eq_true hk
    simp only [List.append_nil, Rows.uptoBulkAll] at hk3
    omega
  clear hA0 hval0
  refine (walk a0_0 len0_0 cap0_0 z0_0 a0_1 a0_2 a1 len1 cap1 z1 a2 len2 cap2 z2 W w0_0 w0_1 w0_2 w1 w2 hbulk).mono fun e W' ⟨he, bel⟩ => ?_
  subst he
  exact ⟨_, rfl, _, _, _, [], _, [], hW', trodAll_mk1 (shut_bool Try.underlying4 _), (trodAll_cons_mk (Below.trod laidOut (by kernel_rfl) (of_decide_eq_true (by kernel_rfl)) k0 bel lt0) (trodAll_cons_mk (Below.trod laidOut (by kernel_rfl) (of_decide_eq_true (by kernel_rfl)) k1 bel lt1) (trodAll_cons_mk (Below.trod laidOut (by kernel_rfl) (of_decide_eq_true (by kernel_rfl)) k2 bel lt2) trodAll_mk0))), rfl, bel.frame _, fun h => by cases h⟩

theorem over : Rows.configPartsUptoRow.holds Try.pinned (Rows.OpenSpec.upto Rows.configPartsSpec) :=
  OpenClaim.holds_of_cond 5 Try.f5 rfl rfl rfl rfl rfl rfl rfl ⟨rfl, rfl, rfl, rfl, rfl⟩ rfl rfl rfl rfl rfl (by kernel_rfl) Try.func5 (by kernel_rfl)
    (of_decide_eq_true (by kernel_rfl)) (by unfold Func.isWrapper; first | (rw [if_pos (by decide +kernel)]; kernel_rfl) | (rw [if_neg (by decide +kernel)]; exact ⟨rfl, rfl⟩))
    (fun os started H enc _ F => lifted os started H enc F)

theorem proved : Rows.ConfigPartsUptoSaid := over
end Go.Proofs.Ytlgmpjjamfdgkaa.configParts

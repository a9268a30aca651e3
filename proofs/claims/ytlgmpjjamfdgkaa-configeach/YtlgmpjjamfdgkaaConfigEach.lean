/-
  one validator alone has its balance, and none has any that there is not (ConfigEach is true of every input).
-/
import Derived.Test.YtlgmpjjamfdgkaaRows
import Derived.WalkKit
import Derived.Below
import Derived.ProofKit
import Derived.OpenShut
import Derived.ShutString
import Derived.ChangeOld
import Derived.Test.YtlgmpjjamfdgkaaCfMay
namespace Go.Proofs.Ytlgmpjjamfdgkaa.configEach
open Go.ChangeShapes Go.WideShapes Go.ChangeAt Go.RowKit
set_option linter.unusedVariables false

theorem own : ownKnob Try.prog.godebug = none := by kernel_rfl
theorem laidOut : laidOutB Try.prog = true := by kernel_rfl
theorem cells3 : Try.prog.cellsOf 3 = 1 := by kernel_rfl
theorem cells4 : Try.prog.cellsOf 4 = 1 := by kernel_rfl
theorem cells22 : Try.prog.cellsOf 22 = 1 := by kernel_rfl
theorem cells24 : Try.prog.cellsOf 24 = 3 := by kernel_rfl
theorem cells27 : Try.prog.cellsOf 27 = 1 := by kernel_rfl
theorem list3 {α : Type _} {l : List α} (h : l.length = 3) : ∃ x0 x1 x2, l = [x0, x1, x2] := by
  match l, h with
  | [x0, x1, x2], _ => exact ⟨x0, x1, x2, rfl⟩
theorem sums_one (bs : List Int) (k : Int) : sums bs [k] = if 0 ≤ k ∧ k < bs.length then bs.getD k.toNat 0 % 18446744073709551616 else 0 := by
  simp only [sums, List.foldl_cons, List.foldl_nil, Int.zero_add]
theorem sums_two (bs : List Int) (k : Int) : sums bs [k, k] = if 0 ≤ k ∧ k < bs.length then (2 * bs.getD k.toNat 0) % 18446744073709551616 else 0 := by
  simp only [sums, List.foldl_cons, List.foldl_nil, Int.zero_add]
  split
  · omega
  · rfl

set_option maxHeartbeats 1000000 in
theorem walk (a0_0 : Option Addr) (len0_0 cap0_0 : Nat) (z0_0 : List Int) (a0_1 : Int) (a0_2 : Int) (a1 : Int) (w : World) (w0_0 : IsRow .u64 w a0_0 len0_0 cap0_0 z0_0) (w0_1 : (Lit.int .i64 a0_1).wf = true) (w0_2 : (Lit.int .i64 a0_2).wf = true) (w1 : (Lit.int .i64 a1).wf = true) :
    Calls Try.prog 6 #[.agg #[.slice a0_0 len0_0 cap0_0, .int .i64 a0_1, .int .i64 a0_2], .int .i64 a1] w fun e w' => e = .returned (.bool true) ∧ Below w.heap.size w w' := by
  have hB := w0_0.row
  have hu := w0_0.u64
  have hk := wf_i64 w1
  clear w0_0 w0_1 w0_2 w1
  generalize z0_0.take len0_0 = bs at *
  have hl := hB.len
  have hc := hB.cap
  unfold maxLen at hc
  have HB := hide (hB.alloc (cfg a0_0 len0_0 cap0_0 a0_1 a0_2))
  have HU := hide hu
  clear hB hu
  go_enter Try.func6, Try.ntmps6
  go_wp2_with fail
  refine (awake_any _).mono ?_
  rintro e w1 ⟨rfl, hbel⟩
  have c0 : w1.cell? ⟨w.heap.size, 0, none⟩ = some (.slice a0_0 len0_0 cap0_0) := by rw [hbel.cell (p := ⟨w.heap.size, 0, none⟩) (by simp)]; simp [go_sem]
  have c1 : w1.cell? ⟨w.heap.size, 1, none⟩ = some (.int .i64 a0_1) := by rw [hbel.cell (p := ⟨w.heap.size, 1, none⟩) (by simp)]; simp [go_sem]
  have c2 : w1.cell? ⟨w.heap.size, 2, none⟩ = some (.int .i64 a0_2) := by rw [hbel.cell (p := ⟨w.heap.size, 2, none⟩) (by simp)]; simp [go_sem]
  have HB1 := hide (HB.out.below hbel)
  have HN := hide ((below_cfg w (cfg a0_0 len0_0 cap0_0 a0_1 a0_2)).trans (hbel.mono (by simp)))
  have hs : w.heap.size < w1.heap.size := by have := hbel.size; simp at this; omega
  clear HB hbel
  have e1 : Hid (sums bs [a1] = _) := sums_one bs a1
  have e2 : Hid (sums bs [a1, a1] = _) := sums_two bs a1
  by_cases h0 : 0 ≤ a1
  · by_cases h1 : a1 < len0_0
    · obtain ⟨j, rfl⟩ : ∃ j : Nat, a1 = j := ⟨a1.toNat, by omega⟩
      obtain ⟨g, off, rfl, hbs, hcn⟩ := HB1.out.cell j (by omega)
      have hm := HU.out (bs.getD j 0) (by rw [List.getD_eq_getElem?_getD, List.getElem?_eq_getElem (show j < bs.length by omega)]; exact List.getElem_mem _)
      rw [if_pos ⟨h0, by rw [hl]; exact h1⟩, Int.toNat_natCast] at e1 e2
      obtain ⟨n, hn⟩ : ∃ n, Hid (bs.getD j 0 = n) := ⟨_, rfl⟩
      rw [hn.out] at hcn e1 e2 hm
      have e1' : Hid (sums bs [(j : Int)] = n) := by rw [e1.out]; exact Int.emod_eq_of_lt hm.1 (by omega)
      rw [← IntKind.wrap_u64] at e2
      go_wp2_with fail
      refine (sum_any bs [(j : Int)] _ _ _ _ _ _ _ _ _ (HB1.out.alloc _) (RowIn.lit .i64 w1 _ _ _ _ _ _ [(j : Int)] rfl rfl rfl (by simp [maxLen]))).mono ?_
      rintro e w2 ⟨rfl, rfl⟩
      rw [e1'.out]
      go_wp2_with fail
      refine (sum_any bs [(j : Int), (j : Int)] _ _ _ _ _ _ _ _ _ (((HB1.out.alloc _).alloc _).alloc _) (RowIn.lit .i64 _ _ _ _ _ _ _ [(j : Int), (j : Int)] (by simp) rfl rfl (by simp [maxLen]))).mono ?_
      rintro e w2 ⟨rfl, rfl⟩
      rw [e2.out]
      go_wp2
      go_ret
      exact ⟨rfl, ((((HN.out.trans ((below_cfg _ _).mono (by omega))).trans ((below_cfg _ _).mono (by simp <;> omega))).trans ((below_cfg _ _).mono (by simp <;> omega))).trans ((below_cfg _ _).mono (by simp <;> omega)))⟩
    · rw [if_neg (fun h => h1 (by rw [hl] at h; exact h.2))] at e1 e2
      go_wp2_with fail
      refine (sum_any bs [a1] _ _ _ _ _ _ _ _ _ (HB1.out.alloc _) (RowIn.lit .i64 w1 _ _ _ _ _ _ [a1] rfl rfl rfl (by simp [maxLen]))).mono ?_
      rintro e w2 ⟨rfl, rfl⟩
      rw [e1.out]
      go_wp2_with fail
      refine (sum_any bs [a1, a1] _ _ _ _ _ _ _ _ _ (((HB1.out.alloc _).alloc _).alloc _) (RowIn.lit .i64 _ _ _ _ _ _ _ [a1, a1] (by simp) rfl rfl (by simp [maxLen]))).mono ?_
      rintro e w2 ⟨rfl, rfl⟩
      rw [e2.out]
      go_wp2
      go_ret
      exact ⟨rfl, ((((HN.out.trans ((below_cfg _ _).mono (by omega))).trans ((below_cfg _ _).mono (by simp <;> omega))).trans ((below_cfg _ _).mono (by simp <;> omega))).trans ((below_cfg _ _).mono (by simp <;> omega)))⟩
  · rw [if_neg (fun h => h0 h.1)] at e1 e2
    go_wp2_with fail
    refine (sum_any bs [a1] _ _ _ _ _ _ _ _ _ (HB1.out.alloc _) (RowIn.lit .i64 w1 _ _ _ _ _ _ [a1] rfl rfl rfl (by simp [maxLen]))).mono ?_
    rintro e w2 ⟨rfl, rfl⟩
    rw [e1.out]
    go_wp2_with fail
    refine (sum_any bs [a1, a1] _ _ _ _ _ _ _ _ _ (((HB1.out.alloc _).alloc _).alloc _) (RowIn.lit .i64 _ _ _ _ _ _ _ [a1, a1] (by simp) rfl rfl (by simp [maxLen]))).mono ?_
    rintro e w2 ⟨rfl, rfl⟩
    rw [e2.out]
    go_wp2
    go_ret
    exact ⟨rfl, ((((HN.out.trans ((below_cfg _ _).mono (by omega))).trans ((below_cfg _ _).mono (by simp <;> omega))).trans ((below_cfg _ _).mono (by simp <;> omega))).trans ((below_cfg _ _).mono (by simp <;> omega)))⟩

set_option maxRecDepth 100000 in
theorem lifted (os : Os) (started : os.Started) (H : Type) (enc : TypeId × Value → H) :
    ReturnsInHanded {} Try.checked os 6 .any (Rows.configEachSpec.pre6 enc Try.prog Try.f6 Rows.configEachRow.domain false) (Rows.configEachSpec.post enc Try.prog Try.f6 false true false false) := by
  refine returnsInHanded_of_change (C := Try.checked) own started (by kernel_rfl) Try.func6
    (ChangeSpec.witness6 (enc := enc) (C := Try.checked) false ⟨#[], #[.agg #[.slice none 0 0, .int .i64 0, .int .i64 0], .int .i64 0], []⟩ 8 (by kernel_rfl) (by kernel_rfl) (by kernel_rfl) (by kernel_rfl)) ?_
  intro W base args ds gs before hval0 hW hcnd _
  have hval : ∀ (j : Nat) t v, Try.f6.params[j]? = some t → args[j]? = some v → Value.okWide Try.prog W .any base t v := hval0
  have hW' := hW
  obtain ⟨p, q, hA0, hV, rfl, hfz, hnd⟩ := hW
  have hA : DataW.TrodAll enc Try.prog W 0 (fun _ => true) true Try.f6.params.toList args.toList ds p := hA0
  rw [Try.params6] at hA hval
  obtain ⟨v0, vs0, d0, ds0, p0, q0, hargs, rfl, rfl, h0, r0⟩ := trodAll_cons hA
  obtain ⟨v1, vs1, d1, ds1, p1, q1, rfl, rfl, rfl, h1, r1⟩ := trodAll_cons r0
  obtain ⟨rfl, rfl, rfl⟩ := trodAll_nil r1
  obtain rfl : args = #[v0, v1] := by cases args; simp_all
  obtain ⟨rfl, rfl⟩ := trodVars_none hV
  obtain ⟨cs0, rfl, sz0⟩ := okWide_struct Try.underlying24 (hval 0 24 v0 rfl rfl)
  rw [cells24] at sz0
  obtain ⟨l0⟩ := cs0
  obtain ⟨c0_0, c0_1, c0_2, rfl⟩ := list3 (show l0.length = 3 from sz0)
  clear sz0
  have k0 := h0
  have lt0 : ∀ x ∈ p0, x.block < W.heap.size := by obtain ⟨m, hm⟩ := k0; exact DataW.trod_lt m _ _ _ hm
  obtain ⟨fuel0, hf0⟩ := h0
  simp only [Value.cells] at hf0
  obtain ⟨xs0_0t24, n0_0t24, _, hx0_0t24, _, hlen0_0t24, hf0_0t24⟩ := DataW.trod_struct Try.underlying24 hf0
  obtain ⟨y0_0t24_0, y0_0t24_1, y0_0t24_2, rfl⟩ := list3 (show xs0_0t24.length = 3 from hlen0_0t24)
  have hy0_0t24_0 : DataW.trod enc Try.prog W 0 (fun _ => true) true n0_0t24 22 [c0_0] = some y0_0t24_0 := by simpa [Value.cells, cells3, cells4, cells22, cells24, cells27] using hf0_0t24 0 _ rfl
  have hy0_0t24_1 : DataW.trod enc Try.prog W 0 (fun _ => true) true n0_0t24 3 [c0_1] = some y0_0t24_1 := by simpa [Value.cells, cells3, cells4, cells22, cells24, cells27] using hf0_0t24 1 _ rfl
  have hy0_0t24_2 : DataW.trod enc Try.prog W 0 (fun _ => true) true n0_0t24 3 [c0_2] = some y0_0t24_2 := by simpa [Value.cells, cells3, cells4, cells22, cells24, cells27] using hf0_0t24 2 _ rfl
  obtain ⟨a0_0, len0_0, cap0_0, z0_0, e0_0, w0_0⟩ : ∃ a len cap zs, c0_0 = .slice a len cap ∧ IsRow .u64 W a len cap zs := by
    rcases open_ints Try.underlying22 Try.underlying27 (by kernel_rfl) hy0_0t24_0 with ⟨hcs, _⟩ | ⟨x, l, c, zs, hcs, _, hl, hm, hz, _, hcell, hwz⟩
    · simp at hcs
      exact ⟨none, 0, 0, [], hcs, .inl ⟨rfl, rfl, rfl, rfl⟩⟩
    · simp at hcs
      exact ⟨_, _, _, zs, hcs, .inr ⟨_, rfl, hl, hm, by simpa using hz, hcell, hwz⟩⟩
  subst e0_0
  obtain ⟨a0_1, e0_1, x0_1, w0_1⟩ := DataW.trod_int Try.underlying3 hy0_0t24_1
  simp at e0_1
  subst e0_1
  obtain ⟨a0_2, e0_2, x0_2, w0_2⟩ := DataW.trod_int Try.underlying3 hy0_0t24_2
  simp at e0_2
  subst e0_2
  obtain ⟨a1, rfl, rfl, rfl, w1⟩ := open_int Try.underlying3 (hval 1 3 v1 rfl rfl) h1
  clear hA0 hval0
  refine (walk a0_0 len0_0 cap0_0 z0_0 a0_1 a0_2 a1 W w0_0 w0_1 w0_2 w1).mono fun e W' ⟨he, bel⟩ => ?_
  subst he
  exact ⟨_, rfl, _, _, _, [], _, [], hW', trodAll_mk1 (shut_bool Try.underlying4 _), (trodAll_cons_mk (Below.trod laidOut (by kernel_rfl) (of_decide_eq_true (by kernel_rfl)) k0 bel lt0) (trodAll_cons_mk (shut_int Try.underlying3 w1) trodAll_mk0)), rfl, bel.frame _, fun h => by cases h⟩

theorem over : Rows.configEachRow.holds Try.pinned (OpenSpec.ofChange Rows.configEachSpec) :=
  OpenClaim.holds_of_wide 6 Try.f6 rfl rfl rfl rfl rfl rfl rfl ⟨rfl, rfl, rfl, rfl, rfl⟩ rfl rfl rfl rfl rfl (by kernel_rfl) Try.func6 (by kernel_rfl)
    (of_decide_eq_true (by kernel_rfl)) (by unfold Func.isWrapper; first | (rw [if_pos (by decide +kernel)]; kernel_rfl) | (rw [if_neg (by decide +kernel)]; exact ⟨rfl, rfl⟩))
    (fun os started H enc _ => lifted os started H enc)

theorem proved : Rows.ConfigEachSaid := over
end Go.Proofs.Ytlgmpjjamfdgkaa.configEach

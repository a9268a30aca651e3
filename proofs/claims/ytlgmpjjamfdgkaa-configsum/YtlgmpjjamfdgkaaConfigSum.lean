/-
  what some have together is the sum of their balances, each as often as it is told (ConfigSum is true of every input).
-/
import Derived.Test.YtlgmpjjamfdgkaaRows
import Derived.WalkKit
import Derived.Below
import Derived.ProofKit
import Derived.OpenShut
import Derived.ShutString
import Derived.ChangeOld
import Derived.Test.YtlgmpjjamfdgkaaCfMay
namespace Go.Proofs.Ytlgmpjjamfdgkaa.configSum
open Go.ChangeShapes Go.WideShapes Go.ChangeAt Go.RowKit
set_option linter.unusedVariables false

theorem own : ownKnob Try.prog.godebug = none := by kernel_rfl
theorem laidOut : laidOutB Try.prog = true := by kernel_rfl
theorem cells3 : Try.prog.cellsOf 3 = 1 := by kernel_rfl
theorem cells4 : Try.prog.cellsOf 4 = 1 := by kernel_rfl
theorem cells22 : Try.prog.cellsOf 22 = 1 := by kernel_rfl
theorem cells24 : Try.prog.cellsOf 24 = 3 := by kernel_rfl
theorem cells25 : Try.prog.cellsOf 25 = 1 := by kernel_rfl
theorem cells27 : Try.prog.cellsOf 27 = 1 := by kernel_rfl
theorem list3 {α : Type _} {l : List α} (h : l.length = 3) : ∃ x0 x1 x2, l = [x0, x1, x2] := by
  match l, h with
  | [x0, x1, x2], _ => exact ⟨x0, x1, x2, rfl⟩

set_option maxHeartbeats 1000000 in
theorem walk (a0_0 : Option Addr) (len0_0 cap0_0 : Nat) (z0_0 : List Int) (a0_1 : Int) (a0_2 : Int) (a1 : Option Addr) (len1 cap1 : Nat) (z1 : List Int) (w : World) (w0_0 : IsRow .u64 w a0_0 len0_0 cap0_0 z0_0) (w0_1 : (Lit.int .i64 a0_1).wf = true) (w0_2 : (Lit.int .i64 a0_2).wf = true) (w1 : IsRow .i64 w a1 len1 cap1 z1) :
    Calls Try.prog 3 #[.agg #[.slice a0_0 len0_0 cap0_0, .int .i64 a0_1, .int .i64 a0_2], .slice a1 len1 cap1] w fun e w' => e = .returned (.bool true) ∧ Below w.heap.size w w' := by
  have hB := w0_0.row
  have hW := w1.row
  clear w0_0 w0_1 w0_2 w1
  generalize z0_0.take len0_0 = bs at *
  generalize z1.take len1 = who at *
  have hl := hB.len
  have hc := hB.cap
  have hl2 := hW.len
  have hc2 := hW.cap
  unfold maxLen at hc hc2
  have HB := hide (hB.alloc (cfg a0_0 len0_0 cap0_0 a0_1 a0_2))
  have HW := hide (hW.alloc (cfg a0_0 len0_0 cap0_0 a0_1 a0_2))
  clear hB hW
  go_enter Try.func3, Try.ntmps3
  go_wp2_with fail
  refine (awake_any _).mono ?_
  rintro e w1 ⟨rfl, hbel⟩
  have c0 : w1.cell? ⟨w.heap.size, 0, none⟩ = some (.slice a0_0 len0_0 cap0_0) := by rw [hbel.cell (p := ⟨w.heap.size, 0, none⟩) (by simp)]; simp [go_sem]
  have c1 : w1.cell? ⟨w.heap.size, 1, none⟩ = some (.int .i64 a0_1) := by rw [hbel.cell (p := ⟨w.heap.size, 1, none⟩) (by simp)]; simp [go_sem]
  have c2 : w1.cell? ⟨w.heap.size, 2, none⟩ = some (.int .i64 a0_2) := by rw [hbel.cell (p := ⟨w.heap.size, 2, none⟩) (by simp)]; simp [go_sem]
  have HB1 := hide (HB.out.below hbel)
  have HW1 := hide (HW.out.below hbel)
  have HN := hide ((below_cfg w (cfg a0_0 len0_0 cap0_0 a0_1 a0_2)).trans (hbel.mono (by simp)))
  have hs : w.heap.size < w1.heap.size := by have := hbel.size; simp at this; omega
  clear HB HW hbel
  go_wp2
  go_loop [5, 15] (fun x i => ∃ k : Nat, k ≤ len1 ∧ i = .int .i64 k ∧ x = .int .u64 (sums bs (who.take k))) (fun x i => len1 - (intOf i).toNat)
  case atStart => exact ⟨0, Nat.zero_le _, rfl, rfl⟩
  case round =>
    obtain ⟨k, hk, rfl, rfl⟩ := hrel
    by_cases hlt : k < len1
    · obtain ⟨g, off, rfl, hbs, hcn⟩ := HW1.out.cell k hlt
      have ht := sums_take bs who k (by omega)
      obtain ⟨v, hv⟩ : ∃ n, Hid (who.getD k 0 = n) := ⟨_, rfl⟩
      rw [hv.out] at hcn ht
      rw [hl] at ht
      by_cases h0 : 0 ≤ v
      · by_cases h1 : v < len0_0
        · obtain ⟨j, rfl⟩ : ∃ j : Nat, v = j := ⟨v.toNat, by omega⟩
          obtain ⟨g1, off1, rfl, hbs1, hcn1⟩ := HB1.out.cell j (by omega)
          rw [if_pos ⟨h0, h1⟩, Int.toNat_natCast] at ht
          obtain ⟨n, hn⟩ : ∃ n, Hid (bs.getD j 0 = n) := ⟨_, rfl⟩
          rw [hn.out] at hcn1 ht
          go_wp2
          go_round
          case rel => exact ⟨k + 1, by omega, by go_num, by rw [ht, IntKind.wrap_u64]⟩
          case measure => simp [intOf]; omega
        · rw [if_neg (fun h => h1 h.2)] at ht
          go_wp2
          go_round
          case rel => exact ⟨k + 1, by omega, by go_num, by rw [ht]⟩
          case measure => simp [intOf]; omega
      · rw [if_neg (fun h => h0 h.1)] at ht
        go_wp2
        go_round
        case rel => exact ⟨k + 1, by omega, by go_num, by rw [ht]⟩
        case measure => simp [intOf]; omega
    · have : k = len1 := by omega
      subst this
      rw [List.take_of_length_le (by omega)]
      go_wp2
      go_loop [6, 39] (fun x i => ∃ k : Nat, k ≤ len0_0 ∧ i = .int .i64 k ∧ x = .int .u64 (tot (bs.take k))) (fun x i => len0_0 - (intOf i).toNat)
      case atStart => exact ⟨0, Nat.zero_le _, rfl, rfl⟩
      case round =>
        obtain ⟨j, hj, rfl, rfl⟩ := hrel
        by_cases hlt2 : j < len0_0
        · obtain ⟨b, off, rfl, hbs, hcn⟩ := HB1.out.cell j hlt2
          have ht := tot_take bs j (by omega)
          obtain ⟨n, hn⟩ : ∃ n, Hid (bs.getD j 0 = n) := ⟨_, rfl⟩
          rw [hn.out] at hcn ht
          go_wp2
          go_round
          case rel => exact ⟨j + 1, by omega, by go_num, by rw [ht, IntKind.wrap_u64]⟩
          case measure => simp [intOf]; omega
        · have : j = len0_0 := by omega
          subst this
          rw [List.take_of_length_le (by omega)]
          go_wp2_with fail
          refine (sum_any bs who _ _ _ _ _ _ _ _ _ HB1.out HW1.out).mono ?_
          rintro e w2 ⟨rfl, rfl⟩
          go_wp2_with fail
          refine (total_any bs _ _ _ _ _ _ (HB1.out.alloc _)).mono ?_
          rintro e w2 ⟨rfl, rfl⟩
          go_wp2_with fail
          refine (sum_any bs [] _ _ _ _ _ _ _ _ _ ((HB1.out.alloc _).alloc _) (RowIn.ofNil _ _)).mono ?_
          rintro e w2 ⟨rfl, rfl⟩
          rw [show sums bs [] = 0 from rfl]
          go_wp2
          go_ret
          exact ⟨rfl, (((HN.out.trans ((below_cfg _ _).mono (by omega))).trans ((below_cfg _ _).mono (by simp <;> omega))).trans ((below_cfg _ _).mono (by simp <;> omega)))⟩

set_option maxRecDepth 100000 in
theorem lifted (os : Os) (started : os.Started) (H : Type) (enc : TypeId × Value → H) :
    ReturnsInHanded {} Try.checked os 3 .any (Rows.configSumSpec.pre6 enc Try.prog Try.f3 Rows.configSumRow.domain false) (Rows.configSumSpec.post enc Try.prog Try.f3 false true false false) := by
  refine returnsInHanded_of_change (C := Try.checked) own started (by kernel_rfl) Try.func3
    (ChangeSpec.witness6 (enc := enc) (C := Try.checked) false ⟨#[], #[.agg #[.slice none 0 0, .int .i64 0, .int .i64 0], .slice none 0 0], []⟩ 8 (by kernel_rfl) (by kernel_rfl) (by kernel_rfl) (by kernel_rfl)) ?_
  intro W base args ds gs before hval0 hW hcnd _
  have hval : ∀ (j : Nat) t v, Try.f3.params[j]? = some t → args[j]? = some v → Value.okWide Try.prog W .any base t v := hval0
  have hW' := hW
  obtain ⟨p, q, hA0, hV, rfl, hfz, hnd⟩ := hW
  have hA : DataW.TrodAll enc Try.prog W 0 (fun _ => true) true Try.f3.params.toList args.toList ds p := hA0
  rw [Try.params3] at hA hval
  obtain ⟨v0, vs0, d0, ds0, p0, q0, hargs, rfl, rfl, h0, r0⟩ := trodAll_cons hA
  obtain ⟨v1, vs1, d1, ds1, p1, q1, rfl, rfl, rfl, h1, r1⟩ := trodAll_cons r0
  obtain ⟨rfl, rfl, rfl⟩ := trodAll_nil r1
  obtain rfl : args = #[v0, v1] := by cases args; simp_all
  obtain ⟨rfl, rfl⟩ := trodVars_none hV
  obtain ⟨cs0, rfl, sz0⟩ := okWide_struct Try.underlying24 (hval 0 24 v0 rfl rfl)
  rw [cells24] at sz0
  obtain ⟨l0⟩ := cs0
  obtain ⟨c0_0, c0_1, c0_2, rfl⟩ := list3 (show l0.length = 3 from sz0)
  clear sz0
  have k0 := h0
  have lt0 : ∀ x ∈ p0, x.block < W.heap.size := by obtain ⟨m, hm⟩ := k0; exact DataW.trod_lt m _ _ _ hm
  obtain ⟨fuel0, hf0⟩ := h0
  simp only [Value.cells] at hf0
  obtain ⟨xs0_0t24, n0_0t24, _, hx0_0t24, _, hlen0_0t24, hf0_0t24⟩ := DataW.trod_struct Try.underlying24 hf0
  obtain ⟨y0_0t24_0, y0_0t24_1, y0_0t24_2, rfl⟩ := list3 (show xs0_0t24.length = 3 from hlen0_0t24)
  have hy0_0t24_0 : DataW.trod enc Try.prog W 0 (fun _ => true) true n0_0t24 22 [c0_0] = some y0_0t24_0 := by simpa [Value.cells, cells3, cells4, cells22, cells24, cells25, cells27] using hf0_0t24 0 _ rfl
  have hy0_0t24_1 : DataW.trod enc Try.prog W 0 (fun _ => true) true n0_0t24 3 [c0_1] = some y0_0t24_1 := by simpa [Value.cells, cells3, cells4, cells22, cells24, cells25, cells27] using hf0_0t24 1 _ rfl
  have hy0_0t24_2 : DataW.trod enc Try.prog W 0 (fun _ => true) true n0_0t24 3 [c0_2] = some y0_0t24_2 := by simpa [Value.cells, cells3, cells4, cells22, cells24, cells25, cells27] using hf0_0t24 2 _ rfl
  obtain ⟨a0_0, len0_0, cap0_0, z0_0, e0_0, w0_0⟩ : ∃ a len cap zs, c0_0 = .slice a len cap ∧ IsRow .u64 W a len cap zs := by
    rcases open_ints Try.underlying22 Try.underlying27 (by kernel_rfl) hy0_0t24_0 with ⟨hcs, _⟩ | ⟨x, l, c, zs, hcs, _, hl, hm, hz, _, hcell, hwz⟩
    · simp at hcs
      exact ⟨none, 0, 0, [], hcs, .inl ⟨rfl, rfl, rfl, rfl⟩⟩
    · simp at hcs
      exact ⟨_, _, _, zs, hcs, .inr ⟨_, rfl, hl, hm, by simpa using hz, hcell, hwz⟩⟩
  subst e0_0
  obtain ⟨a0_1, e0_1, x0_1, w0_1⟩ := DataW.trod_int Try.underlying3 hy0_0t24_1
  simp at e0_1
  subst e0_1
  obtain ⟨a0_2, e0_2, x0_2, w0_2⟩ := DataW.trod_int Try.underlying3 hy0_0t24_2
  simp at e0_2
  subst e0_2
  obtain ⟨a1, len1, cap1, rfl⟩ := okWide_slice Try.underlying25 (hval 1 25 v1 rfl rfl)
  have k1 := h1
  have lt1 : ∀ x ∈ p1, x.block < W.heap.size := by obtain ⟨m, hm⟩ := k1; exact DataW.trod_lt m _ _ _ hm
  obtain ⟨z1, w1⟩ : ∃ zs, IsRow .i64 W a1 len1 cap1 zs := by
    obtain ⟨fuel, hf⟩ := h1
    rcases open_ints Try.underlying25 Try.underlying3 (by kernel_rfl) hf with ⟨hcs, _⟩ | ⟨x, l, c, zs, hcs, _, hl, hm, hz, _, hcell, hwz⟩
    · simp [Value.cells] at hcs
      obtain ⟨rfl, rfl, rfl⟩ := hcs
      exact ⟨[], .inl ⟨rfl, rfl, rfl, rfl⟩⟩
    · simp [Value.cells] at hcs
      obtain ⟨rfl, rfl, rfl⟩ := hcs
      exact ⟨zs, .inr ⟨_, rfl, hl, hm, by simpa using hz, hcell, hwz⟩⟩
  clear hA0 hval0
  refine (walk a0_0 len0_0 cap0_0 z0_0 a0_1 a0_2 a1 len1 cap1 z1 W w0_0 w0_1 w0_2 w1).mono fun e W' ⟨he, bel⟩ => ?_
  subst he
  exact ⟨_, rfl, _, _, _, [], _, [], hW', trodAll_mk1 (shut_bool Try.underlying4 _), (trodAll_cons_mk (Below.trod laidOut (by kernel_rfl) (of_decide_eq_true (by kernel_rfl)) k0 bel lt0) (trodAll_cons_mk (Below.trod laidOut (by kernel_rfl) (of_decide_eq_true (by kernel_rfl)) k1 bel lt1) trodAll_mk0)), rfl, bel.frame _, fun h => by cases h⟩

theorem over : Rows.configSumRow.holds Try.pinned (OpenSpec.ofChange Rows.configSumSpec) :=
  OpenClaim.holds_of_wide 3 Try.f3 rfl rfl rfl rfl rfl rfl rfl ⟨rfl, rfl, rfl, rfl, rfl⟩ rfl rfl rfl rfl rfl (by kernel_rfl) Try.func3 (by kernel_rfl)
    (of_decide_eq_true (by kernel_rfl)) (by unfold Func.isWrapper; first | (rw [if_pos (by decide +kernel)]; kernel_rfl) | (rw [if_neg (by decide +kernel)]; exact ⟨rfl, rfl⟩))
    (fun os started H enc _ => lifted os started H enc)

theorem proved : Rows.ConfigSumSaid := over
end Go.Proofs.Ytlgmpjjamfdgkaa.configSum

/-
  a boost is what the document says; of a configuration that may be it is no more than a slot's share of all (ConfigBoost is true of every input).
-/
import Derived.Test.YtlgmpjjamfdgkaaRows
import Derived.WalkKit
import Derived.Below
import Derived.ProofKit
import Derived.OpenShut
import Derived.ShutString
import Derived.ChangeOld
import Derived.Test.YtlgmpjjamfdgkaaCfMake
import Derived.Deep.CutRange
namespace Go.Proofs.Ytlgmpjjamfdgkaa.configBoost
open Go.ChangeShapes Go.WideShapes Go.ChangeAt Go.RowKit
set_option linter.unusedVariables false

theorem own : ownKnob Try.prog.godebug = none := by kernel_rfl
theorem laidOut : laidOutB Try.prog = true := by kernel_rfl
theorem cells3 : Try.prog.cellsOf 3 = 1 := by kernel_rfl
theorem cells4 : Try.prog.cellsOf 4 = 1 := by kernel_rfl
theorem cells22 : Try.prog.cellsOf 22 = 1 := by kernel_rfl
theorem cells24 : Try.prog.cellsOf 24 = 3 := by kernel_rfl
theorem cells27 : Try.prog.cellsOf 27 = 1 := by kernel_rfl
theorem list3 {α : Type _} {l : List α} (h : l.length = 3) : ∃ x0 x1 x2, l = [x0, x1, x2] := by
  match l, h with
  | [x0, x1, x2], _ => exact ⟨x0, x1, x2, rfl⟩
theorem tot_le : ∀ (zs : List Int) (n : Nat) (x : Int), zs.length ≤ n → (∀ z ∈ zs, 0 ≤ z ∧ z ≤ 4294967296) → 0 ≤ x → x + n * 4294967296 < 18446744073709551616 →
    0 ≤ zs.foldl (fun a b => (a + b) % 18446744073709551616) x ∧ zs.foldl (fun a b => (a + b) % 18446744073709551616) x ≤ x + n * 4294967296
  | [], n, x, _, _, h0, h1 => ⟨h0, by simp only [List.foldl_nil]; omega⟩
  | z :: zs, 0, x, h, _, _, _ => by simp at h
  | z :: zs, n + 1, x, h, hz, h0, h1 => by
    have hz0 := hz z (by simp)
    have h2 := tot_le zs n ((x + z) % 18446744073709551616) (by simpa using h) (fun y hy => hz y (by simp [hy])) (by omega) (by omega)
    simp only [List.foldl_cons]
    omega
theorem boost_bel (bs : List Int) (a : Option Addr) (l c : Nat) (s b : Int) (w : World) (hB : RowIn .u64 w a l c bs)
    (hs : -9223372036854775808 ≤ s ∧ s ≤ 9223372036854775807) (hb : -9223372036854775808 ≤ b ∧ b ≤ 9223372036854775807) :
    Calls Try.prog 11 #[.agg #[.slice a l c, .int .i64 s, .int .i64 b]] w fun e w' => e = .returned (.int .u64 (bst (tot bs) s b)) ∧ Below w.heap.size w w' :=
  (boost_any bs a l c s b w hB hs hb).mono fun e w' ⟨he, hw⟩ => ⟨he, by rw [hw]; exact ((Below.refl _ _).alloc (Nat.le_refl _) _).alloc (by simp) _⟩

set_option maxHeartbeats 1000000 in
theorem walk (a0_0 : Option Addr) (len0_0 cap0_0 : Nat) (z0_0 : List Int) (a0_1 : Int) (a0_2 : Int) (w : World) (w0_0 : IsRow .u64 w a0_0 len0_0 cap0_0 z0_0) (w0_1 : (Lit.int .i64 a0_1).wf = true) (w0_2 : (Lit.int .i64 a0_2).wf = true) :
    Calls Try.prog 4 #[.agg #[.slice a0_0 len0_0 cap0_0, .int .i64 a0_1, .int .i64 a0_2]] w fun e w' => e = .returned (.bool true) ∧ Below w.heap.size w w' := by
  have hB := w0_0.row
  have hu := w0_0.u64
  have hs := wf_i64 w0_1
  have hb := wf_i64 w0_2
  clear w0_0 w0_1 w0_2
  generalize z0_0.take len0_0 = bs at *
  have HU := hide hu
  have HB := hide (hB.alloc (cfg a0_0 len0_0 cap0_0 a0_1 a0_2))
  clear hB hu
  have hSb := mkS_b a0_1
  have hBb := mkB_b a0_2
  have hlb := mkBs_len bs
  have hTb : 0 ≤ tot (mkBs bs) ∧ tot (mkBs bs) ≤ 17592186044416 := by
    have := tot_le (mkBs bs) 4096 0 hlb.2 (mkBs_b bs) (by omega) (by omega)
    unfold tot
    omega
  have htb := tot_b bs
  obtain ⟨S, hS⟩ : ∃ x, Hid (mkS a0_1 = x) := ⟨_, rfl⟩
  obtain ⟨B, hB⟩ : ∃ x, Hid (mkB a0_2 = x) := ⟨_, rfl⟩
  obtain ⟨T, hT⟩ : ∃ x, Hid (tot (mkBs bs) = x) := ⟨_, rfl⟩
  obtain ⟨t, ht⟩ : ∃ x, Hid (tot bs = x) := ⟨_, rfl⟩
  obtain ⟨n, hn⟩ : ∃ x, Hid ((mkBs bs).length = x) := ⟨_, rfl⟩
  rw [hS.out] at hSb
  rw [hB.out] at hBb
  rw [hT.out] at hTb
  rw [ht.out] at htb
  rw [hn.out] at hlb
  go_enter Try.func4, Try.ntmps4
  go_wp2_with fail
  refine (awake_any _).mono ?_
  rintro e w1 ⟨rfl, hbel⟩
  have c0 : w1.cell? ⟨w.heap.size, 0, none⟩ = some (.slice a0_0 len0_0 cap0_0) := by rw [hbel.cell (p := ⟨w.heap.size, 0, none⟩) (by simp)]; simp [go_sem]
  have c1 : w1.cell? ⟨w.heap.size, 1, none⟩ = some (.int .i64 a0_1) := by rw [hbel.cell (p := ⟨w.heap.size, 1, none⟩) (by simp)]; simp [go_sem]
  have c2 : w1.cell? ⟨w.heap.size, 2, none⟩ = some (.int .i64 a0_2) := by rw [hbel.cell (p := ⟨w.heap.size, 2, none⟩) (by simp)]; simp [go_sem]
  have HB1 := hide (HB.out.below hbel)
  have HN := hide ((below_cfg w (cfg a0_0 len0_0 cap0_0 a0_1 a0_2)).trans (hbel.mono (by simp)))
  have hs1 : w.heap.size < w1.heap.size := by have := hbel.size; simp at this; omega
  clear HB hbel
  go_wp2_with fail
  refine (make_any bs _ _ _ _ _ _ HB1.out HU.out hs hb).mono ?_
  rintro e w2 ⟨ao, d, rfl, hR, hbel⟩
  rw [hS.out, hB.out, hn.out]
  rw [hn.out] at hR
  have d0 := (hbel.cell (p := ⟨w.heap.size, 0, none⟩) hs1).trans c0
  have d1 := (hbel.cell (p := ⟨w.heap.size, 1, none⟩) hs1).trans c1
  have d2 := (hbel.cell (p := ⟨w.heap.size, 2, none⟩) hs1).trans c2
  have HB2 := hide (HB1.out.below hbel)
  have HR2 := hide hR
  have HN2 := hide (HN.out.trans (hbel.mono (by omega)))
  have hs2 : w.heap.size < w2.heap.size := Nat.lt_of_lt_of_le hs1 hbel.size
  clear HB1 hbel hR HN c0 c1 c2 hs1
  go_wp2_with fail
  refine (total_any (mkBs bs) _ _ _ _ _ _ (HR2.out.alloc _)).mono ?_
  rintro e w3 ⟨rfl, rfl⟩
  rw [hT.out]
  go_wp2
  obtain ⟨sh, hsh⟩ : ∃ x, Hid (T / S = x) := ⟨_, rfl⟩
  have hshb : 0 ≤ sh ∧ sh ≤ 17592186044416 := by
    rw [← hsh.out]
    exact ⟨Int.ediv_nonneg hTb.1 (by omega), Int.le_trans (Int.ediv_le_self _ hTb.1) hTb.2⟩
  rw [hsh.out]
  obtain ⟨w3, hw3⟩ : ∃ x, Hid ((w2.alloc (cfg ao n d S B)).alloc (cfg ao n d S B) = x) := ⟨_, rfl⟩
  rw [hw3.out]
  have hbel3 : Below w2.heap.size w2 w3 := by rw [← hw3.out]; exact ((Below.refl _ _).alloc (Nat.le_refl _) _).alloc (by simp) _
  have d0 := (hbel3.cell (p := ⟨w.heap.size, 0, none⟩) hs2).trans d0
  have d1 := (hbel3.cell (p := ⟨w.heap.size, 1, none⟩) hs2).trans d1
  have d2 := (hbel3.cell (p := ⟨w.heap.size, 2, none⟩) hs2).trans d2
  have m0 : w3.cell? ⟨w2.heap.size, 0, none⟩ = some (.slice ao n d) := by rw [← hw3.out]; simp [go_sem]
  have m1 : w3.cell? ⟨w2.heap.size, 1, none⟩ = some (.int .i64 S) := by rw [← hw3.out]; simp [go_sem]
  have m2 : w3.cell? ⟨w2.heap.size, 2, none⟩ = some (.int .i64 B) := by rw [← hw3.out]; simp [go_sem]
  have HB3 := hide ((HB2.out.below hbel3).below (Below.refl _ _).drew)
  have HR3 := hide (HR2.out.below hbel3)
  have HN3 := hide (HN2.out.trans (hbel3.mono (by omega)))
  have hs3 : w.heap.size < w3.heap.size := Nat.lt_of_lt_of_le hs2 hbel3.size
  have hs4 : w2.heap.size < w3.heap.size := by rw [← hw3.out]; simp; omega
  clear HB2 HR2 HN2 hbel3
  obtain ⟨y, hy⟩ : ∃ y, (if 1 < a0_1 then a0_1 else 1) = y := ⟨_, rfl⟩
  obtain ⟨z, hz⟩ : ∃ z, (if 0 < a0_2 then a0_2 else 0) = z := ⟨_, rfl⟩
  have hyb : 1 ≤ y ∧ y ≤ 9223372036854775807 := by rw [← hy]; split <;> omega
  have hzb : 0 ≤ z ∧ z ≤ 9223372036854775807 := by rw [← hz]; split <;> omega
  have uy : IntKind.u64.wrap y = y := by rw [IntKind.wrap_u64]; omega
  have uz : IntKind.u64.wrap z = z := by rw [IntKind.wrap_u64]; omega
  have ne : ¬ y = 0 := by omega
  have hbst : Hid (IntKind.u64.wrap ((IntKind.u64.wrap (IntKind.u64.wrap (t.tdiv y) * z)).tdiv 100) = bst t a0_1 a0_2) := by
    have h1 := quo_b t y htb hyb.1
    have e : IntKind.u64.wrap (t.tdiv y) = t / y := by rw [IntKind.wrap_u64, Int.tdiv_eq_ediv_of_nonneg htb.1]; omega
    have e1 : mx1 a0_1 = y := by rw [← hy]; unfold mx1; split <;> split <;> omega
    have e2 : mx0 a0_2 = z := by rw [← hz]; unfold mx0; split <;> split <;> omega
    have h : IntKind.u64.wrap ((IntKind.u64.wrap (IntKind.u64.wrap (t.tdiv y) * z)).tdiv 100) = bst t a0_1 a0_2 := by rw [quo100, e, bst, e1, e2]
    exact h
  go_cut [6] from 18 to 30 (fun v wx => v = Value.int .u64 (bst t a0_1 a0_2) ∧ wx = (w3.alloc (cfg a0_0 len0_0 cap0_0 a0_1 a0_2)).drew)
  case first =>
    go_region_held3 (fun w' => w'.cell? ⟨w.heap.size, 0, none⟩ = some (.slice a0_0 len0_0 cap0_0) ∧ w'.cell? ⟨w.heap.size, 1, none⟩ = some (.int .i64 a0_1) ∧ w'.cell? ⟨w.heap.size, 2, none⟩ = some (.int .i64 a0_2))
      (go_keep)
      (first
        | (go_at_call 9
           refine (total_any bs _ _ _ _ _ _ HB3.out).mono ?_
           rintro e w' ⟨rfl, rfl⟩
           rw [ht.out]))
    all_goals
      go_wp2_with fail
      go_meet
      exact ⟨by rw [hbst.out], rfl⟩
  case rest =>
    obtain ⟨rfl, rfl⟩ := hcut
    clear hy hz uy uz ne hbst hyb hzb
    obtain ⟨p, hp⟩ : ∃ p, IntKind.u64.wrap (sh * B) = p := ⟨_, rfl⟩
    obtain ⟨q, hq⟩ : ∃ q, IntKind.u64.wrap (p.tdiv 100) = q := ⟨_, rfl⟩
    obtain ⟨r, hr⟩ : ∃ r, Hid (bst t a0_1 a0_2 = r) := ⟨_, rfl⟩
    have uB : IntKind.u64.wrap B = B := by rw [IntKind.wrap_u64]; omega
    have hbm : Hid (bst T S B = q) := by
      have e1 : mx1 S = S := by unfold mx1; split <;> omega
      have e2 : mx0 B = B := by unfold mx0; split <;> omega
      have h : bst T S B = q := by rw [← hq, ← hp, quo100, bst, e1, e2, hsh.out]
      exact h
    have hqs : q ≤ sh := by
      have h1 : sh * B ≤ sh * 100 := Int.mul_le_mul_of_nonneg_left hBb.2 hshb.1
      have h2 : 0 ≤ sh * B := Int.mul_nonneg hshb.1 hBb.1
      rw [← hq, ← hp, quo100]
      omega
    obtain ⟨w5, hw5⟩ : ∃ x, Hid ((w3.alloc (cfg a0_0 len0_0 cap0_0 a0_1 a0_2)).drew = x) := ⟨_, rfl⟩
    rw [hw5.out, hr.out]
    have hbel5 : Below w3.heap.size w3 w5 := by rw [← hw5.out]; exact ((Below.refl _ _).alloc (Nat.le_refl _) _).drew
    have d0 := (hbel5.cell (p := ⟨w.heap.size, 0, none⟩) hs3).trans d0
    have d1 := (hbel5.cell (p := ⟨w.heap.size, 1, none⟩) hs3).trans d1
    have d2 := (hbel5.cell (p := ⟨w.heap.size, 2, none⟩) hs3).trans d2
    have m0 := (hbel5.cell (p := ⟨w2.heap.size, 0, none⟩) hs4).trans m0
    have m1 := (hbel5.cell (p := ⟨w2.heap.size, 1, none⟩) hs4).trans m1
    have m2 := (hbel5.cell (p := ⟨w2.heap.size, 2, none⟩) hs4).trans m2
    have HB5 : Hid (RowIn .u64 w5 a0_0 len0_0 cap0_0 bs) := by rw [← hw5.out]; exact (HB3.out.below ((Below.refl _ w3.drew).alloc (Nat.le_refl _) (cfg a0_0 len0_0 cap0_0 a0_1 a0_2)))
    have HR5 := hide (HR3.out.below hbel5)
    have HR5d := hide ((HR3.out.below hbel5).below (Below.refl _ _).drew)
    have HN5 := hide (HN3.out.trans (hbel5.mono (by omega)))
    have hs5 : w.heap.size < w5.heap.size := Nat.lt_of_lt_of_le hs3 hbel5.size
    have hs6 : w2.heap.size < w5.heap.size := Nat.lt_of_lt_of_le hs4 hbel5.size
    have hcs : Hid (∀ w', Below w5.heap.size w5 w' → w'.cell? ⟨w.heap.size, 0, none⟩ = some (.slice a0_0 len0_0 cap0_0) ∧ w'.cell? ⟨w.heap.size, 1, none⟩ = some (.int .i64 a0_1) ∧ w'.cell? ⟨w.heap.size, 2, none⟩ = some (.int .i64 a0_2) ∧
        w'.cell? ⟨w2.heap.size, 0, none⟩ = some (.slice ao n d) ∧ w'.cell? ⟨w2.heap.size, 1, none⟩ = some (.int .i64 S) ∧ w'.cell? ⟨w2.heap.size, 2, none⟩ = some (.int .i64 B)) :=
      fun w' h => ⟨(h.cell (p := ⟨w.heap.size, 0, none⟩) hs5).trans d0, (h.cell (p := ⟨w.heap.size, 1, none⟩) hs5).trans d1, (h.cell (p := ⟨w.heap.size, 2, none⟩) hs5).trans d2,
        (h.cell (p := ⟨w2.heap.size, 0, none⟩) hs6).trans m0, (h.cell (p := ⟨w2.heap.size, 1, none⟩) hs6).trans m1, (h.cell (p := ⟨w2.heap.size, 2, none⟩) hs6).trans m2⟩
    clear HB3 HR3 HN3 hbel5
    go_wp2
    go_region_held3 (fun w' => w'.cell? ⟨w.heap.size, 0, none⟩ = some (.slice a0_0 len0_0 cap0_0) ∧ w'.cell? ⟨w.heap.size, 1, none⟩ = some (.int .i64 a0_1) ∧ w'.cell? ⟨w.heap.size, 2, none⟩ = some (.int .i64 a0_2) ∧
        w'.cell? ⟨w2.heap.size, 0, none⟩ = some (.slice ao n d) ∧ w'.cell? ⟨w2.heap.size, 1, none⟩ = some (.int .i64 S) ∧ w'.cell? ⟨w2.heap.size, 2, none⟩ = some (.int .i64 B))
      (first
        | exact hcs.out _ hb8.out
        | exact hcs.out _ hb7.out
        | exact hcs.out _ hb6.out
        | go_keep)
      (first
        | (go_at_call_of 11 (Value.int .i64 a0_1)
           refine (boost_bel bs _ _ _ _ _ w7 (HB5.out.below hb7.out) hs hb).mono ?_
           rintro e w8 ⟨rfl, hb⟩
           have hb8 : Hid (Below w5.heap.size w5 w8) := hb7.out.trans (hb.mono hb7.out.size)
           clear hb
           rw [ht.out, hr.out])
        | (go_at_call_of 11 (Value.int .i64 S)
           refine (boost_bel (mkBs bs) _ _ _ _ _ w6 (HR5.out.below hb6.out) (by omega) (by omega)).mono ?_
           rintro e w7 ⟨rfl, hb⟩
           have hb7 : Hid (Below w5.heap.size w5 w7) := hb6.out.trans (hb.mono hb6.out.size)
           clear hb
           rw [hT.out, hbm.out])
        | (go_at_call_of 11 (Value.int .i64 S)
           refine (boost_bel (mkBs bs) _ _ _ _ _ w5.drew HR5d.out (by omega) (by omega)).mono ?_
           rintro e w6 ⟨rfl, hb⟩
           have hb6 : Hid (Below w5.heap.size w5 w6) := ((Below.refl _ _).drew).trans hb
           clear hb
           rw [hT.out, hbm.out]))
    all_goals
      go_wp2
      go_ret
      exact ⟨rfl, HN5.out.trans (hb8.out.mono (by omega))⟩

set_option maxRecDepth 100000 in
theorem lifted (os : Os) (started : os.Started) (H : Type) (enc : TypeId × Value → H) :
    ReturnsInHanded {} Try.checked os 4 .any (Rows.configBoostSpec.pre6 enc Try.prog Try.f4 Rows.configBoostRow.domain false) (Rows.configBoostSpec.post enc Try.prog Try.f4 false true false false) := by
  refine returnsInHanded_of_change (C := Try.checked) own started (by kernel_rfl) Try.func4
    (ChangeSpec.witness6 (enc := enc) (C := Try.checked) false ⟨#[], #[.agg #[.slice none 0 0, .int .i64 0, .int .i64 0]], []⟩ 8 (by kernel_rfl) (by kernel_rfl) (by kernel_rfl) (by kernel_rfl)) ?_
  intro W base args ds gs before hval0 hW hcnd _
  have hval : ∀ (j : Nat) t v, Try.f4.params[j]? = some t → args[j]? = some v → Value.okWide Try.prog W .any base t v := hval0
  have hW' := hW
  obtain ⟨p, q, hA0, hV, rfl, hfz, hnd⟩ := hW
  have hA : DataW.TrodAll enc Try.prog W 0 (fun _ => true) true Try.f4.params.toList args.toList ds p := hA0
  rw [Try.params4] at hA hval
  obtain ⟨v0, vs0, d0, ds0, p0, q0, hargs, rfl, rfl, h0, r0⟩ := trodAll_cons hA
  obtain ⟨rfl, rfl, rfl⟩ := trodAll_nil r0
  obtain rfl : args = #[v0] := by cases args; simp_all
  obtain ⟨rfl, rfl⟩ := trodVars_none hV
  obtain ⟨cs0, rfl, sz0⟩ := okWide_struct Try.underlying24 (hval 0 24 v0 rfl rfl)
  rw [cells24] at sz0
  obtain ⟨l0⟩ := cs0
  obtain ⟨c0_0, c0_1, c0_2, rfl⟩ := list3 (show l0.length = 3 from sz0)
  clear sz0
  have k0 := h0
  have lt0 : ∀ x ∈ p0, x.block < W.heap.size := by obtain ⟨m, hm⟩ := k0; exact DataW.trod_lt m _ _ _ hm
  obtain ⟨fuel0, hf0⟩ := h0
  simp only [Value.cells] at hf0
  obtain ⟨xs0_0t24, n0_0t24, _, hx0_0t24, _, hlen0_0t24, hf0_0t24⟩ := DataW.trod_struct Try.underlying24 hf0
  obtain ⟨y0_0t24_0, y0_0t24_1, y0_0t24_2, rfl⟩ := list3 (show xs0_0t24.length = 3 from hlen0_0t24)
  have hy0_0t24_0 : DataW.trod enc Try.prog W 0 (fun _ => true) true n0_0t24 22 [c0_0] = some y0_0t24_0 := by simpa [Value.cells, cells3, cells4, cells22, cells24, cells27] using hf0_0t24 0 _ rfl
  have hy0_0t24_1 : DataW.trod enc Try.prog W 0 (fun _ => true) true n0_0t24 3 [c0_1] = some y0_0t24_1 := by simpa [Value.cells, cells3, cells4, cells22, cells24, cells27] using hf0_0t24 1 _ rfl
  have hy0_0t24_2 : DataW.trod enc Try.prog W 0 (fun _ => true) true n0_0t24 3 [c0_2] = some y0_0t24_2 := by simpa [Value.cells, cells3, cells4, cells22, cells24, cells27] using hf0_0t24 2 _ rfl
  obtain ⟨a0_0, len0_0, cap0_0, z0_0, e0_0, w0_0⟩ : ∃ a len cap zs, c0_0 = .slice a len cap ∧ IsRow .u64 W a len cap zs := by
    rcases open_ints Try.underlying22 Try.underlying27 (by kernel_rfl) hy0_0t24_0 with ⟨hcs, _⟩ | ⟨x, l, c, zs, hcs, _, hl, hm, hz, _, hcell, hwz⟩
    · simp at hcs
      exact ⟨none, 0, 0, [], hcs, .inl ⟨rfl, rfl, rfl, rfl⟩⟩
    · simp at hcs
      exact ⟨_, _, _, zs, hcs, .inr ⟨_, rfl, hl, hm, by simpa using hz, hcell, hwz⟩⟩
  subst e0_0
  obtain ⟨a0_1, e0_1, x0_1, w0_1⟩ := DataW.trod_int Try.underlying3 hy0_0t24_1
  simp at e0_1
  subst e0_1
  obtain ⟨a0_2, e0_2, x0_2, w0_2⟩ := DataW.trod_int Try.underlying3 hy0_0t24_2
  simp at e0_2
  subst e0_2
  clear hA0 hval0
  refine (walk a0_0 len0_0 cap0_0 z0_0 a0_1 a0_2 W w0_0 w0_1 w0_2).mono fun e W' ⟨he, bel⟩ => ?_
  subst he
  exact ⟨_, rfl, _, _, _, [], _, [], hW', trodAll_mk1 (shut_bool Try.underlying4 _), (trodAll_cons_mk (Below.trod laidOut (by kernel_rfl) (of_decide_eq_true (by kernel_rfl)) k0 bel lt0) trodAll_mk0), rfl, bel.frame _, fun h => by cases h⟩

theorem over : Rows.configBoostRow.holds Try.pinned (OpenSpec.ofChange Rows.configBoostSpec) :=
  OpenClaim.holds_of_wide 4 Try.f4 rfl rfl rfl rfl rfl rfl rfl ⟨rfl, rfl, rfl, rfl, rfl⟩ rfl rfl rfl rfl rfl (by kernel_rfl) Try.func4 (by kernel_rfl)
    (of_decide_eq_true (by kernel_rfl)) (by unfold Func.isWrapper; first | (rw [if_pos (by decide +kernel)]; kernel_rfl) | (rw [if_neg (by decide +kernel)]; exact ⟨rfl, rfl⟩))
    (fun os started H enc _ => lifted os started H enc)

theorem proved : Rows.ConfigBoostSaid := over
end Go.Proofs.Ytlgmpjjamfdgkaa.configBoost

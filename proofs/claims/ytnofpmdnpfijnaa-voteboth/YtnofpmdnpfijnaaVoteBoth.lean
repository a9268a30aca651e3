/-
  who is in both votes is told once, rising (VoteBoth is true of every input).
-/
import Derived.Test.YtnofpmdnpfijnaaRows

import Derived.WalkKit

import Derived.Below

import Derived.ProofKit

import Derived.OpenShut

import Derived.ShutString

import Derived.ChangeOld

import Derived.SizedLaws

import Derived.Test.YtnofpmdnpfijnaaVAt

namespace Go.Proofs.Ytnofpmdnpfijnaa.voteBoth

open Go.ChangeShapes Go.WideShapes Go.ChangeAt Go.RowKit

set_option linter.unusedVariables false

theorem own : ownKnob Try.prog.godebug = none := by kernel_rfl
theorem laidOut : laidOutB Try.prog = true := by kernel_rfl
theorem cells3 : Try.prog.cellsOf 3 = 1 := by kernel_rfl
theorem cells4 : Try.prog.cellsOf 4 = 1 := by kernel_rfl
theorem cells28 : Try.prog.cellsOf 28 = 1 := by kernel_rfl
theorem getD_mem (zs : List Int) (k : Nat) (h : k < zs.length) : zs.getD k 0 ∈ zs := by
  rw [List.getD_eq_getElem?_getD, List.getElem?_eq_getElem h]
  exact List.getElem_mem h
theorem getD_lt (zs : List Int) (hp : zs.Pairwise (· < ·)) (k : Nat) (h : k < zs.length) (h0 : 0 < k) : zs.getD (k - 1) 0 < zs.getD k 0 := by
  rw [List.getD_eq_getElem?_getD, List.getD_eq_getElem?_getD, List.getElem?_eq_getElem h, List.getElem?_eq_getElem (show k - 1 < zs.length by omega)]
  exact List.pairwise_iff_getElem.1 hp (k - 1) k _ _ (by omega)

set_option maxHeartbeats 1000000 in
theorem walk (a0 : Option Addr) (len0 cap0 : Nat) (z0 : List Int) (a1 : Option Addr) (len1 cap1 : Nat) (z1 : List Int) (w : World) (w0 : IsRow .i64 w a0 len0 cap0 z0) (r0 : cap0 * 8 ≤ 140737488351232) (w1 : IsRow .i64 w a1 len1 cap1 z1) (r1 : cap1 * 8 ≤ 140737488351232) :
    Calls Try.prog 5 #[.slice a0 len0 cap0, .slice a1 len1 cap1] w fun e w' => e = .returned (.bool true) ∧ Below w.heap.size w w' := by
  have hX := w0.row
  have hY := w1.row
  clear w0 w1
  generalize z0.take len0 = xs at *
  generalize z1.take len1 = ys at *
  have hxl := hX.len
  have hyl := hY.len
  have hxc := hX.cap
  have hyc := hY.cap
  unfold maxLen at hxc hyc
  have HX := hide hX
  have HY := hide hY
  clear hX hY
  have hl0 : len0 * 8 ≤ 140737488355328 := by omega
  have hl1 : len1 * 8 ≤ 140737488355328 := by omega
  have hbl := bth_len xs ys
  obtain ⟨m, hm⟩ : ∃ x, Hid ((bth xs ys).length = x) := ⟨_, rfl⟩
  rw [hm.out] at hbl
  go_enter Try.func5, Try.ntmps5
  go_wp2_with fail
  refine (awake_any _).mono ?_
  rintro e w1 ⟨rfl, hbel⟩
  have HX1 := hide (HX.out.below hbel)
  have HY1 := hide (HY.out.below hbel)
  have HN1 := hide hbel
  clear hbel HX HY
  go_wp2_with fail
  refine (both_any xs ys _ _ _ _ _ _ _ _ _ _ _ _ _ _ _ _ _ _ _ HX1.out HY1.out hl0 hl1).mono ?_
  rintro e w2 ⟨v2, rfl, hown, hbel⟩
  rw [hm.out] at hown
  obtain ⟨ao, d, rfl, hR⟩ := RowIn.ofOwned hown
  have HX2 := hide (HX1.out.below hbel)
  have HY2 := hide (HY1.out.below hbel)
  have HN2 := hide (HN1.out.trans (hbel.mono HN1.out.size))
  have HR2 := hide hR
  have hrc := hR.cap
  unfold maxLen at hrc
  clear hown hbel hR HX1 HY1 HN1
  go_wp2
  go_loop [21] (fun i => ∃ (k : Nat), k ≤ m ∧ i = .int .i64 k) (fun i => m - (intOf i).toNat)
  case atStart => exact ⟨0, Nat.zero_le _, rfl⟩
  case round =>
    obtain ⟨k, hk, rfl⟩ := hrel
    by_cases hlt : k < m
    · obtain ⟨b, off, rfl, hbs, hcn⟩ := HR2.out.cell k hlt
      have hmem := getD_mem (bth xs ys) k (by rw [hm.out]; exact hlt)
      rw [mem_bth] at hmem
      obtain ⟨x, hx⟩ : ∃ x, Hid ((bth xs ys).getD k 0 = x) := ⟨_, rfl⟩
      rw [hx.out] at hcn hmem
      have hm1 := decide_eq_true hmem.1
      have hm2 := decide_eq_true hmem.2
      have HM1 := hide hm1
      have HM2 := hide hm2
      clear hmem hm1 hm2
      by_cases h0 : 0 < (k : Int)
      · obtain ⟨b', off', e', _, hcp⟩ := HR2.out.cell (k - 1) (by omega)
        cases e'
        have hlt2 := getD_lt (bth xs ys) (bth_lt xs ys) k (by rw [hm.out]; exact hlt) (by omega)
        obtain ⟨y, hy⟩ : ∃ x, Hid ((bth xs ys).getD (k - 1) 0 = x) := ⟨_, rfl⟩
        rw [hx.out, hy.out] at hlt2
        rw [hy.out] at hcp
        have hkk : (off + (k - 1) : Nat) = off + (k - 1) := rfl
        have hd : decide (x ≤ y) = false := decide_eq_false (by omega)
        have hw : IntKind.i64.wrap ((k : Int) - 1) = ((k - 1 : Nat) : Int) := by rw [IntKind.wrap_i64]; omega
        have hw2 : wrap64 ((k : Int) - 1) = ((k - 1 : Nat) : Int) := by unfold wrap64; omega
        have hk1 : k - 1 < m := by omega
        obtain ⟨k1, hk1'⟩ : ∃ z, k - 1 = z := ⟨_, rfl⟩
        rw [hk1'] at hcp hw hw2 hk1
        clear hk1' hkk
        go_wp2_with fail
        refine (has_any xs _ _ _ _ _ HX2.out).mono ?_
        rintro e w3 ⟨rfl, hw3⟩
        obtain rfl : _ = w3 := hw3.symm
        clear hw3
        rw [HM1.out]
        go_wp2_with fail
        refine (has_any ys _ _ _ _ _ HY2.out).mono ?_
        rintro e w3 ⟨rfl, hw3⟩
        obtain rfl : _ = w3 := hw3.symm
        clear hw3
        rw [HM2.out]
        go_wp2
        go_round
        case rel => exact ⟨k + 1, by omega, by go_num⟩
        case measure => simp [intOf]; omega
      · have hd : decide (0 < (k : Int)) = false := decide_eq_false h0
        go_wp2_with fail
        refine (has_any xs _ _ _ _ _ HX2.out).mono ?_
        rintro e w3 ⟨rfl, hw3⟩
        obtain rfl : _ = w3 := hw3.symm
        clear hw3
        rw [HM1.out]
        go_wp2_with fail
        refine (has_any ys _ _ _ _ _ HY2.out).mono ?_
        rintro e w3 ⟨rfl, hw3⟩
        obtain rfl : _ = w3 := hw3.symm
        clear hw3
        rw [HM2.out]
        go_wp2
        go_round
        case rel => exact ⟨k + 1, by omega, by go_num⟩
        case measure => simp [intOf]; omega
    · have : k = m := by omega
      subst this
      go_wp2
      go_loop [52] (fun i => ∃ (j : Nat), j ≤ len0 ∧ i = .int .i64 j) (fun i => len0 - (intOf i).toNat)
      case atStart => exact ⟨0, Nat.zero_le _, rfl⟩
      case round =>
        obtain ⟨j, hj, rfl⟩ := hrel
        by_cases hlt2 : j < len0
        · obtain ⟨b, off, rfl, hbs, hcn⟩ := HX2.out.cell j hlt2
          have hmem := getD_mem xs j (by omega)
          obtain ⟨x, hx⟩ : ∃ x, Hid (xs.getD j 0 = x) := ⟨_, rfl⟩
          rw [hx.out] at hcn hmem
          by_cases hin : x ∈ ys
          · have HM1 := hide (decide_eq_true hin)
            have HM2 := hide (decide_eq_true ((mem_bth xs ys x).2 ⟨hmem, hin⟩))
            clear hmem hin
            go_wp2_with fail
            refine (has_any ys _ _ _ _ _ HY2.out).mono ?_
            rintro e w3 ⟨rfl, hw3⟩
            obtain rfl : _ = w3 := hw3.symm
            clear hw3
            rw [HM1.out]
            go_wp2_with fail
            refine (has_any (bth xs ys) _ _ _ _ _ HR2.out).mono ?_
            rintro e w3 ⟨rfl, hw3⟩
            obtain rfl : _ = w3 := hw3.symm
            clear hw3
            rw [HM2.out]
            go_wp2
            go_round
            case rel => exact ⟨j + 1, by omega, by go_num⟩
            case measure => simp [intOf]; omega
          · have HM1 := hide (decide_eq_false hin)
            clear hmem hin
            go_wp2_with fail
            refine (has_any ys _ _ _ _ _ HY2.out).mono ?_
            rintro e w3 ⟨rfl, hw3⟩
            obtain rfl : _ = w3 := hw3.symm
            clear hw3
            rw [HM1.out]
            go_wp2
            go_round
            case rel => exact ⟨j + 1, by omega, by go_num⟩
            case measure => simp [intOf]; omega
        · have : j = len0 := by omega
          subst this
          go_wp2_with fail
          refine (both_any ys xs _ _ _ _ _ _ _ _ _ _ _ _ _ _ _ _ _ _ _ HY2.out HX2.out hl1 hl0).mono ?_
          rintro e w3 ⟨v3, rfl, hown, hbel⟩
          rw [bth_comm, hm.out] at hown
          obtain ⟨ao3, d3, e3, hR3⟩ := RowIn.ofOwned hown
          subst e3
          have HR3 := hide hR3
          have HR23 := hide (HR2.out.below hbel)
          have HN3 := hide (HN2.out.trans (hbel.mono HN2.out.size))
          clear hown hbel hR3 HX2 HY2 HN2 HR2
          go_wp2
          go_loopw [78] (fun i wr => ∃ (i' : Nat), i' ≤ k ∧ i = .int .i64 i' ∧ Hid (Below w3.heap.size w3 wr)) (fun i _ => k - (intOf i).toNat)
          case atStart => exact ⟨0, Nat.zero_le _, rfl, hide (Below.refl _ _)⟩
          case round =>
            obtain ⟨i, hi, rfl, hI⟩ := hrel
            by_cases hlt3 : i < k
            · obtain ⟨b, off, rfl, hbs, hcn⟩ := (HR23.out.below hI.out).cell i hlt3
              obtain ⟨b2, off2, rfl, hbs2, hcn2⟩ := (HR3.out.below hI.out).cell i hlt3
              obtain ⟨x, hx⟩ : ∃ x, Hid ((bth xs ys).getD i 0 = x) := ⟨_, rfl⟩
              rw [hx.out] at hcn hcn2
              go_wp2
              go_quiet (fail)
              all_goals
                go_wp2
                go_roundw
                case rel => exact ⟨i + 1, by omega, by go_num, hide (below_drewN hI.out _)⟩
                case measure => simp [intOf]; omega
            · have : i = k := by omega
              subst this
              go_wp2
              go_ret
              exact ⟨rfl, HN3.out.trans (hI.out.mono HN3.out.size)⟩

set_option maxRecDepth 100000 in
theorem lifted (os : Os) (started : os.Started) (H : Type) (enc : TypeId × Value → H) :
    ReturnsInHanded {} Try.checked os 5 .any (Rows.voteBothSpec.pre6 enc Try.prog Try.f5 Rows.voteBothRow.domain false) (Rows.voteBothSpec.post enc Try.prog Try.f5 false true false false) := by
  refine returnsInHanded_of_change_sized (C := Try.checked) own started (by kernel_rfl) Try.func5
    (ChangeSpec.witness6 (enc := enc) (C := Try.checked) false ⟨#[], #[.slice none 0 0, .slice none 0 0], []⟩ 8 (by kernel_rfl) (by kernel_rfl) (by kernel_rfl) (by kernel_rfl)) ?_
  intro W base args ds gs before hval0 hW hcnd hsz0 _
  have hval : ∀ (j : Nat) t v, Try.f5.params[j]? = some t → args[j]? = some v → Value.okWide Try.prog W .any base t v := hval0
  have hsz : (DataW.weightsEach Try.prog (Try.f5.params.toList ++ Rows.voteBothSpec.plain.varTypes Try.prog) (ds ++ gs)).all (· ≤ reachBytes) = true := hsz0
  have hW' := hW
  obtain ⟨p, q, hA0, hV, rfl, hfz, hnd⟩ := hW
  have hA : DataW.TrodAll enc Try.prog W 0 (fun _ => true) true Try.f5.params.toList args.toList ds p := hA0
  rw [Try.params5] at hA hval hsz
  obtain ⟨v0, vs0, d0, ds0, p0, q0, hargs, rfl, rfl, h0, r0⟩ := trodAll_cons hA
  obtain ⟨v1, vs1, d1, ds1, p1, q1, rfl, rfl, rfl, h1, r1⟩ := trodAll_cons r0
  obtain ⟨rfl, rfl, rfl⟩ := trodAll_nil r1
  obtain rfl : args = #[v0, v1] := by cases args; simp_all
  obtain ⟨rfl, rfl⟩ := trodVars_none hV
  obtain ⟨a0, len0, cap0, rfl⟩ := okWide_slice Try.underlying28 (hval 0 28 v0 rfl rfl)
  have k0 := h0
  have lt0 : ∀ x ∈ p0, x.block < W.heap.size := by obtain ⟨m, hm⟩ := k0; exact DataW.trod_lt m _ _ _ hm
  obtain ⟨z0, w0, r0_⟩ : ∃ zs, IsRow .i64 W a0 len0 cap0 zs ∧ cap0 * 8 ≤ 140737488351232 := by
    obtain ⟨fuel, hf⟩ := h0
    rcases open_ints Try.underlying28 Try.underlying3 (by kernel_rfl) hf with ⟨hcs, hxx⟩ | ⟨x, l, c, zs, hcs, _, hl, hm, hz, hxx, hcell, hwz⟩
    · simp [Value.cells] at hcs
      obtain ⟨rfl, rfl, rfl⟩ := hcs
      exact ⟨[], .inl ⟨rfl, rfl, rfl, rfl⟩, by omega⟩
    · simp [Value.cells] at hcs
      obtain ⟨rfl, rfl, rfl⟩ := hcs
      refine ⟨zs, .inr ⟨_, rfl, hl, hm, by simpa using hz, hcell, hwz⟩, ?_⟩
      have hzz : zs.length = cap0 := by simpa using hz
      have hs3 := sized_slice hsz (j := 0) (t := 28) (e := 3) rfl (by rw [(Prod.mk.inj hxx).1]; rfl) Try.underlying28
      rw [show Try.prog.bytesOf 3 = 8 from by kernel_rfl] at hs3
      simp only [lits, List.length_map, List.length_take, List.length_drop, reachBytes] at hs3
      omega
  obtain ⟨a1, len1, cap1, rfl⟩ := okWide_slice Try.underlying28 (hval 1 28 v1 rfl rfl)
  have k1 := h1
  have lt1 : ∀ x ∈ p1, x.block < W.heap.size := by obtain ⟨m, hm⟩ := k1; exact DataW.trod_lt m _ _ _ hm
  obtain ⟨z1, w1, r1_⟩ : ∃ zs, IsRow .i64 W a1 len1 cap1 zs ∧ cap1 * 8 ≤ 140737488351232 := by
    obtain ⟨fuel, hf⟩ := h1
    rcases open_ints Try.underlying28 Try.underlying3 (by kernel_rfl) hf with ⟨hcs, hxx⟩ | ⟨x, l, c, zs, hcs, _, hl, hm, hz, hxx, hcell, hwz⟩
    · simp [Value.cells] at hcs
      obtain ⟨rfl, rfl, rfl⟩ := hcs
      exact ⟨[], .inl ⟨rfl, rfl, rfl, rfl⟩, by omega⟩
    · simp [Value.cells] at hcs
      obtain ⟨rfl, rfl, rfl⟩ := hcs
      refine ⟨zs, .inr ⟨_, rfl, hl, hm, by simpa using hz, hcell, hwz⟩, ?_⟩
      have hzz : zs.length = cap1 := by simpa using hz
      have hs3 := sized_slice hsz (j := 1) (t := 28) (e := 3) rfl (by rw [(Prod.mk.inj hxx).1]; rfl) Try.underlying28
      rw [show Try.prog.bytesOf 3 = 8 from by kernel_rfl] at hs3
      simp only [lits, List.length_map, List.length_take, List.length_drop, reachBytes] at hs3
      omega
  clear hA0 hval0
  refine (walk a0 len0 cap0 z0 a1 len1 cap1 z1 W w0 r0_ w1 r1_).mono fun e W' ⟨he, bel⟩ => ?_
  subst he
  exact ⟨_, rfl, _, _, _, [], _, [], hW', trodAll_mk1 (shut_bool Try.underlying4 _), (trodAll_cons_mk (Below.trod laidOut (by kernel_rfl) (of_decide_eq_true (by kernel_rfl)) k0 bel lt0) (trodAll_cons_mk (Below.trod laidOut (by kernel_rfl) (of_decide_eq_true (by kernel_rfl)) k1 bel lt1) trodAll_mk0)), rfl, bel.frame _, fun h => by cases h⟩

theorem over : Rows.voteBothRow.holds Try.pinned (OpenSpec.ofChange Rows.voteBothSpec) :=
  OpenClaim.holds_of_wide 5 Try.f5 rfl rfl rfl rfl rfl rfl rfl ⟨rfl, rfl, rfl, rfl, rfl⟩ rfl rfl rfl rfl rfl (by kernel_rfl) Try.func5 (by kernel_rfl)
    (of_decide_eq_true (by kernel_rfl)) (by unfold Func.isWrapper; first | (rw [if_pos (by decide +kernel)]; kernel_rfl) | (rw [if_neg (by decide +kernel)]; exact ⟨rfl, rfl⟩))
    (fun os started H enc _ => lifted os started H enc)

theorem proved : Rows.VoteBothSaid := over
end Go.Proofs.Ytnofpmdnpfijnaa.voteBoth

/-
  octet.Put of any bytes and numbers answers the bytes, and behind them each number in eight bytes, the high ones first (OctetPut is true of every input).
-/
import Derived.Test.YtkcjeholgeneoaaRows
import Derived.WalkKit
import Derived.ProofKit
import Derived.OpenShut
import Derived.ShutString
import Derived.ChangeOld
import Derived.Below
import Derived.Test.YtkcjeholgeneoaaOctAwake
import Derived.SizedLaws
namespace Go.Proofs.Ytkcjeholgeneoaa.octetPut
open Go.ChangeShapes Go.WideShapes Go.ChangeAt Go.RowKit
open Go.ChangeMaps (open_string shut_string)
set_option linter.unusedVariables false

theorem own : ownKnob Try.prog.godebug = none := by kernel_rfl
theorem laidOut : laidOutB Try.prog = true := by kernel_rfl

set_option maxHeartbeats 1000000 in
theorem walk (a0 : Option Addr) (len0 cap0 : Nat) (z0 : List Int) (a1 : Option Addr) (len1 cap1 : Nat) (z1 : List Int) (w : World) (w0 : IsRow .u8 w a0 len0 cap0 z0) (w1 : IsRow .u64 w a1 len1 cap1 z1) (r0 : cap0 * 1 ≤ 140737488351232) (r1 : cap1 * 8 ≤ 140737488351232) :
    Calls Try.prog 3 #[.slice a0 len0 cap0, .slice a1 len1 cap1] w fun e w' => e = .returned (.bool true) ∧ Below w.heap.size w w' := by
  have hB := w0.row
  have hN := w1.row
  have hu := w1.u64
  clear w0 w1
  generalize z0.take len0 = bs at *
  generalize z1.take len1 = ns at *
  have hbl := hB.len
  have hnl := hN.len
  have hbc := hB.cap
  have hnc := hN.cap
  unfold maxLen at hbc hnc
  have HB := hide (hB)
  have HN := hide (hN)
  have HU := hide (hu)
  clear hB hN hu
  go_enter Try.func3, Try.ntmps3
  go_wp2_with fail
  refine (awake_any _).mono ?_
  rintro e w1 ⟨rfl, hbel⟩
  go_wp2_with fail
  refine (put_any bs ns _ _ _ _ _ _ _ (HB.out.below hbel) (HN.out.below hbel) HU.out (by omega)).mono ?_
  rintro e w2 ⟨rfl, hown, hbel2⟩
  have hb2 : Below w.heap.size w w2 := hbel.trans (hbel2.mono hbel.size)
  have HO := hide (RowIn.owned hown)
  obtain ⟨g, hg⟩ : ∃ g, w1.heap.size = g := ⟨_, rfl⟩
  rw [hg] at HO ⊢
  clear hown hbel2 hbel hg
  have hc1 : ∀ q, (convert 22 9 (.slice (some ⟨g, 0, none⟩) len0 (len0 + 8 * len1))).run Try.prog (w2.drewN q) = .ok (.string (strOfNums bs)) (w2.drewN q) := by
    intro q
    have := conv_row ((HO.out.take len0 (by omega) (by simp)).drewN q)
    rwa [List.take_append_of_le_length (by omega), List.take_of_length_le (by omega)] at this
  have hc2 : ∀ q, (convert 22 9 (.slice a0 len0 cap0)).run Try.prog (w2.drewN q) = .ok (.string (strOfNums bs)) (w2.drewN q) := fun q => conv_row ((HB.out.below hb2).drewN q)
  have hl : ((((len0 + 8 * len1 : Nat) : Int)) != (len0 : Int) + 8 * (len1 : Int)) = false := by simp
  go_wp2
  go_quiet (fail)
  have HC1 := hide (hc1)
  clear hc1 hc2 hl
  go_wp2
  go_loop [35] (fun i => ∃ k : Nat, k ≤ len1 ∧ i = .int .i64 k) (fun i => len1 - (intOf i).toNat)
  case atStart => exact ⟨0, Nat.zero_le _, rfl⟩
  case round =>
    obtain ⟨k, hk, rfl⟩ := hrel
    by_cases hlt : k < len1
    · obtain ⟨b, off, rfl, hbs, hcn⟩ := (HN.out.below hb2).cell k hlt
      have hun := HU.out (ns.getD k 0) (by rw [List.getD_eq_getElem?_getD, List.getElem?_eq_getElem (show k < ns.length by omega)]; exact List.getElem_mem _)
      have hpc : Hid (∀ q, ∀ i, i < 8 → (w2.drewN q).cell? ⟨g, 0 + (len0 + 8 * k) + i, none⟩ = some (.int .u8 ((be8 (ns.getD k 0)).getD i 0))) := by
        intro q
        have := (HO.out.drewN q).piece (len0 + 8 * k) 8 (by omega)
        rwa [← hbl, put_piece bs ns k (by omega), hbl] at this
      obtain ⟨n, hnk⟩ : ∃ n, Hid (ns.getD k 0 = n) := ⟨_, rfl⟩
      rw [hnk.out] at hcn hun hpc
      have hid : Hid (num (be8 n) = n) := num_be8 n hun.1 hun.2
      have hcap : len0 + 8 * k + 8 ≤ len0 + 8 * len1 := by omega
      go_wp2_with fail
      refine (number_any (be8 n) g (len0 + 8 * k) 8 _ _ rfl (by omega) (bytes_be8 n hun.1 hun.2) (fun i hi => by have := hpc.out nq i hi; rwa [Nat.zero_add] at this)).mono ?_
      rintro e w3 ⟨rfl, rfl⟩
      rw [hid.out]
      go_wp2
      go_round
      case rel => exact ⟨k + 1, by omega, by go_num⟩
      case measure => simp [intOf]; omega
    · go_wp2
      go_ret
      exact ⟨rfl, below_drewN hb2 _⟩

set_option maxRecDepth 100000 in
theorem lifted (os : Os) (started : os.Started) (H : Type) (enc : TypeId × Value → H) :
    ReturnsInHanded {} Try.checked os 3 .any (Rows.octetPutSpec.pre6 enc Try.prog Try.f3 Rows.octetPutRow.domain false) (Rows.octetPutSpec.post enc Try.prog Try.f3 false true false false) := by
  refine returnsInHanded_of_change_sized (C := Try.checked) own started (by kernel_rfl) Try.func3
    (ChangeSpec.witness6 (enc := enc) (C := Try.checked) false ⟨#[], #[.slice none 0 0, .slice none 0 0], []⟩ 8 (by kernel_rfl) (by kernel_rfl) (by kernel_rfl) (by kernel_rfl)) ?_
  intro W base args ds gs before hval0 hW hcnd hsz0 _
  have hval : ∀ (j : Nat) t v, Try.f3.params[j]? = some t → args[j]? = some v → Value.okWide Try.prog W .any base t v := hval0
  have hsz : (DataW.weightsEach Try.prog (Try.f3.params.toList ++ Rows.octetPutSpec.plain.varTypes Try.prog) (ds ++ gs)).all (· ≤ reachBytes) = true := hsz0
  have hW' := hW
  obtain ⟨p, q, hA0, hV, rfl, hfz, hnd⟩ := hW
  have hA : DataW.TrodAll enc Try.prog W 0 (fun _ => true) true Try.f3.params.toList args.toList ds p := hA0
  rw [Try.params3] at hA hval hsz
  obtain ⟨v0, vs0, d0, ds0, p0, q0, hargs, rfl, rfl, h0, r0⟩ := trodAll_cons hA
  obtain ⟨v1, vs1, d1, ds1, p1, q1, rfl, rfl, rfl, h1, r1⟩ := trodAll_cons r0
  obtain ⟨rfl, rfl, rfl⟩ := trodAll_nil r1
  obtain rfl : args = #[v0, v1] := by cases args; simp_all
  obtain ⟨rfl, rfl⟩ := trodVars_none hV
  obtain ⟨a0, len0, cap0, rfl⟩ := okWide_slice Try.underlying22 (hval 0 22 v0 rfl rfl)
  have k0 := h0
  have lt0 : ∀ x ∈ p0, x.block < W.heap.size := by obtain ⟨m, hm⟩ := k0; exact DataW.trod_lt m _ _ _ hm
  obtain ⟨z0, w0, r0_⟩ : ∃ zs, IsRow .u8 W a0 len0 cap0 zs ∧ cap0 * 1 ≤ 140737488351232 := by
    obtain ⟨fuel, hf⟩ := h0
    rcases open_ints Try.underlying22 Try.underlying5 (by kernel_rfl) hf with ⟨hcs, hxx⟩ | ⟨x, l, c, zs, hcs, _, hl, hm, hz, hxx, hcell, hwz⟩
    · simp [Value.cells] at hcs
      obtain ⟨rfl, rfl, rfl⟩ := hcs
      exact ⟨[], .inl ⟨rfl, rfl, rfl, rfl⟩, by omega⟩
    · simp [Value.cells] at hcs
      obtain ⟨rfl, rfl, rfl⟩ := hcs
      refine ⟨zs, .inr ⟨_, rfl, hl, hm, by simpa using hz, hcell, hwz⟩, ?_⟩
      have hzz : zs.length = cap0 := by simpa using hz
      have hs3 := sized_slice hsz (j := 0) (t := 22) (e := 5) rfl (by rw [(Prod.mk.inj hxx).1]; rfl) Try.underlying22
      rw [show Try.prog.bytesOf 5 = 1 from by kernel_rfl] at hs3
      simp only [lits, List.length_map, List.length_take, List.length_drop, reachBytes] at hs3
      omega
  obtain ⟨a1, len1, cap1, rfl⟩ := okWide_slice Try.underlying23 (hval 1 23 v1 rfl rfl)
  have k1 := h1
  have lt1 : ∀ x ∈ p1, x.block < W.heap.size := by obtain ⟨m, hm⟩ := k1; exact DataW.trod_lt m _ _ _ hm
  obtain ⟨z1, w1, r1_⟩ : ∃ zs, IsRow .u64 W a1 len1 cap1 zs ∧ cap1 * 8 ≤ 140737488351232 := by
    obtain ⟨fuel, hf⟩ := h1
    rcases open_ints Try.underlying23 Try.underlying26 (by kernel_rfl) hf with ⟨hcs, hxx⟩ | ⟨x, l, c, zs, hcs, _, hl, hm, hz, hxx, hcell, hwz⟩
    · simp [Value.cells] at hcs
      obtain ⟨rfl, rfl, rfl⟩ := hcs
      exact ⟨[], .inl ⟨rfl, rfl, rfl, rfl⟩, by omega⟩
    · simp [Value.cells] at hcs
      obtain ⟨rfl, rfl, rfl⟩ := hcs
      refine ⟨zs, .inr ⟨_, rfl, hl, hm, by simpa using hz, hcell, hwz⟩, ?_⟩
      have hzz : zs.length = cap1 := by simpa using hz
      have hs3 := sized_slice hsz (j := 1) (t := 23) (e := 26) rfl (by rw [(Prod.mk.inj hxx).1]; rfl) Try.underlying23
      rw [show Try.prog.bytesOf 26 = 8 from by kernel_rfl] at hs3
      simp only [lits, List.length_map, List.length_take, List.length_drop, reachBytes] at hs3
      omega
  clear hA0 hval0
  refine (walk a0 len0 cap0 z0 a1 len1 cap1 z1 W w0 w1 r0_ r1_).mono fun e W' ⟨he, bel⟩ => ?_
  subst he
  exact ⟨_, rfl, _, _, _, [], _, [], hW', trodAll_mk1 (shut_bool Try.underlying4 _), (trodAll_cons_mk (Below.trod laidOut (by kernel_rfl) (of_decide_eq_true (by kernel_rfl)) k0 bel lt0) (trodAll_cons_mk (Below.trod laidOut (by kernel_rfl) (of_decide_eq_true (by kernel_rfl)) k1 bel lt1) trodAll_mk0)), rfl, bel.frame _, fun h => by cases h⟩

theorem over : Rows.octetPutRow.holds Try.pinned (OpenSpec.ofChange Rows.octetPutSpec) :=
  OpenClaim.holds_of_wide 3 Try.f3 rfl rfl rfl rfl rfl rfl rfl ⟨rfl, rfl, rfl, rfl, rfl⟩ rfl rfl rfl rfl rfl (by kernel_rfl) Try.func3 (by kernel_rfl)
    (of_decide_eq_true (by kernel_rfl)) (by unfold Func.isWrapper; first | (rw [if_pos (by decide +kernel)]; kernel_rfl) | (rw [if_neg (by decide +kernel)]; exact ⟨rfl, rfl⟩))
    (fun os started H enc _ => lifted os started H enc)

theorem proved : Rows.OctetPutSaid := over
end Go.Proofs.Ytkcjeholgeneoaa.octetPut

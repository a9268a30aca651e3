/-
  numbers that octet.Put has laid are read by octet.Get one behind the other, and no more; a number laid behind them makes the bytes part where they ended (OctetBack is true of every input).
-/
import Derived.Test.YtkcjeholgeneoaaRows
import Derived.WalkKit
import Derived.ProofKit
import Derived.OpenShut
import Derived.ShutString
import Derived.ChangeOld
import Derived.Below
import Derived.Test.YtkcjeholgeneoaaOctAwake
import Derived.SizedLaws
namespace Go.Proofs.Ytkcjeholgeneoaa.octetBack
open Go.ChangeShapes Go.WideShapes Go.ChangeAt Go.RowKit
open Go.ChangeMaps (open_string shut_string)
set_option linter.unusedVariables false

theorem own : ownKnob Try.prog.godebug = none := by kernel_rfl
theorem laidOut : laidOutB Try.prog = true := by kernel_rfl

theorem parts_longer (xs ys : List Int) (h : ys ≠ []) : parts xs (xs ++ ys) 0 = (xs.length : Int) := by
  have hy : 0 < ys.length := List.length_pos_iff.2 h
  exact parts_short xs (xs ++ ys) xs.length (by simp) (by simp) (by simp; omega)
set_option maxHeartbeats 1000000 in
theorem walk (a0 : Option Addr) (len0 cap0 : Nat) (z0 : List Int) (a1 : Int) (w : World) (w0 : IsRow .u64 w a0 len0 cap0 z0) (w1 : (Lit.int .u64 a1).wf = true) (r0 : cap0 * 8 ≤ 140737488351232) :
    Calls Try.prog 7 #[.slice a0 len0 cap0, .int .u64 a1] w fun e w' => e = .returned (.bool true) ∧ Below w.heap.size w w' := by
  have hN := w0.row
  have hu := w0.u64
  have hm := wf_u64 w1
  clear w0 w1
  generalize z0.take len0 = ns at *
  have hnl := hN.len
  have hnc := hN.cap
  unfold maxLen at hnc
  have HN := hide (hN)
  have HU := hide (hu)
  clear hN hu
  go_enter Try.func7, Try.ntmps7
  go_wp2_with fail
  refine (awake_any _).mono ?_
  rintro e w1 ⟨rfl, hbel⟩
  go_wp2_with fail
  refine (put_any [] ns _ _ _ _ _ _ _ (RowIn.ofNil _ _) (HN.out.below hbel) HU.out (by omega)).mono ?_
  rintro e w2 ⟨rfl, hown, hbel2⟩
  have hb2 : Below w.heap.size w w2 := hbel.trans (hbel2.mono hbel.size)
  rw [Nat.zero_add] at hown ⊢
  rw [List.nil_append] at hown
  have HO := hide (RowIn.owned hown)
  obtain ⟨g, hg⟩ : ∃ g, w1.heap.size = g := ⟨_, rfl⟩
  rw [hg] at HO ⊢
  clear hown hbel2 hbel hg
  go_wp2
  go_loop [6, 21] (fun t i => ∃ k : Nat, k ≤ len0 ∧ i = .int .i64 k ∧ t = .int .i64 ((8 * k : Nat) : Int)) (fun _ i => len0 - (intOf i).toNat)
  case atStart => exact ⟨0, Nat.zero_le _, rfl, rfl⟩
  case round =>
    obtain ⟨k, hk, rfl, rfl⟩ := hrel
    by_cases hlt : k < len0
    · obtain ⟨b, off, rfl, hbs, hcn⟩ := (HN.out.below hb2).cell k hlt
      have hun := HU.out (ns.getD k 0) (by rw [List.getD_eq_getElem?_getD, List.getElem?_eq_getElem (show k < ns.length by omega)]; exact List.getElem_mem _)
      have hpc : Hid (∀ i, i < 8 → w2.cell? ⟨g, 0 + 8 * k + i, none⟩ = some (.int .u8 ((be8 (ns.getD k 0)).getD i 0))) := by
        have := HO.out.piece (8 * k) 8 (by omega)
        rwa [flat_piece ns k (by omega)] at this
      obtain ⟨n, hnk⟩ : ∃ n, Hid (ns.getD k 0 = n) := ⟨_, rfl⟩
      rw [hnk.out] at hcn hun hpc
      have hid : Hid (num (be8 n) = n) := num_be8 n hun.1 hun.2
      go_wp2_with fail
      refine (get_yes (be8 n) g 0 (8 * len0) (8 * len0) (8 * k) _ rfl (bytes_be8 n hun.1 hun.2) (by omega) (by unfold maxLen; omega) (by omega) hpc.out).mono ?_
      rintro e w3 ⟨rfl, rfl⟩
      rw [hid.out]
      go_wp2
      go_round
      case rel => exact ⟨k + 1, by omega, by go_num, congrArg (Value.int .i64) (by omega)⟩
      case measure => simp [intOf]; omega
    · have hkk : k = len0 := by omega
      subst hkk
      go_wp2_with fail
      refine (get_no (some ⟨g, 0, none⟩) (8 * k) (8 * k) ((8 * k : Nat) : Int) _ (by unfold maxLen; omega) (by right; omega) (by omega)).mono ?_
      rintro e w3 ⟨rfl, rfl⟩
      go_wp2_with fail
      refine (put_any (flat ns) [a1] (some ⟨g, 0, none⟩) (some ⟨w3.heap.size, 0, none⟩) (8 * k) (8 * k) 1 1 _ (HO.out.alloc _) ?_ ?_ ?_).mono ?_
      · exact RowIn.lit _ _ _ _ _ _ _ _ [a1] rfl rfl rfl (by simp [maxLen])
      · intro n hn; simp at hn; subst hn; exact hm
      · omega
      rintro e w4 ⟨rfl, hown4, hbel4⟩
      have hx4 : Hid (RowIn .u8 w4 (some ⟨w3.heap.size + 1, 0, none⟩) (8 * k + 8 * 1) (8 * k + 8 * 1) (flat ns ++ flat [a1])) := by
        have := RowIn.owned (k := .u8) hown4
        rw [World.size_alloc] at this
        exact this
      have hO4 : Hid (RowIn .u8 w4 (some ⟨g, 0, none⟩) (8 * k) (8 * k) (flat ns)) := (HO.out.alloc _).below hbel4
      have hb4 : Hid (Below w.heap.size w w4) := hb2.trans (((Below.refl _ _).alloc hb2.size _).trans (hbel4.mono (by simp; have := hb2.size; omega)))
      clear hown4 hbel4
      go_wp2_with fail
      refine (first_any (flat ns) (flat ns ++ flat [a1]) _ _ _ _ _ _ _ hO4.out hx4.out).mono ?_
      rintro e w5 ⟨rfl, nq, rfl⟩
      rw [parts_longer _ _ (by simp [flat, be8]), len_flat, hnl]
      go_wp2
      go_ret
      exact ⟨rfl, below_drewN hb4.out _⟩

set_option maxRecDepth 100000 in
theorem lifted (os : Os) (started : os.Started) (H : Type) (enc : TypeId × Value → H) :
    ReturnsInHanded {} Try.checked os 7 .any (Rows.octetBackSpec.pre6 enc Try.prog Try.f7 Rows.octetBackRow.domain false) (Rows.octetBackSpec.post enc Try.prog Try.f7 false true false false) := by
  refine returnsInHanded_of_change_sized (C := Try.checked) own started (by kernel_rfl) Try.func7
    (ChangeSpec.witness6 (enc := enc) (C := Try.checked) false ⟨#[], #[.slice none 0 0, .int .u64 0], []⟩ 8 (by kernel_rfl) (by kernel_rfl) (by kernel_rfl) (by kernel_rfl)) ?_
  intro W base args ds gs before hval0 hW hcnd hsz0 _
  have hval : ∀ (j : Nat) t v, Try.f7.params[j]? = some t → args[j]? = some v → Value.okWide Try.prog W .any base t v := hval0
  have hsz : (DataW.weightsEach Try.prog (Try.f7.params.toList ++ Rows.octetBackSpec.plain.varTypes Try.prog) (ds ++ gs)).all (· ≤ reachBytes) = true := hsz0
  have hW' := hW
  obtain ⟨p, q, hA0, hV, rfl, hfz, hnd⟩ := hW
  have hA : DataW.TrodAll enc Try.prog W 0 (fun _ => true) true Try.f7.params.toList args.toList ds p := hA0
  rw [Try.params7] at hA hval hsz
  obtain ⟨v0, vs0, d0, ds0, p0, q0, hargs, rfl, rfl, h0, r0⟩ := trodAll_cons hA
  obtain ⟨v1, vs1, d1, ds1, p1, q1, rfl, rfl, rfl, h1, r1⟩ := trodAll_cons r0
  obtain ⟨rfl, rfl, rfl⟩ := trodAll_nil r1
  obtain rfl : args = #[v0, v1] := by cases args; simp_all
  obtain ⟨rfl, rfl⟩ := trodVars_none hV
  obtain ⟨a0, len0, cap0, rfl⟩ := okWide_slice Try.underlying23 (hval 0 23 v0 rfl rfl)
  have k0 := h0
  have lt0 : ∀ x ∈ p0, x.block < W.heap.size := by obtain ⟨m, hm⟩ := k0; exact DataW.trod_lt m _ _ _ hm
  obtain ⟨z0, w0, r0_⟩ : ∃ zs, IsRow .u64 W a0 len0 cap0 zs ∧ cap0 * 8 ≤ 140737488351232 := by
    obtain ⟨fuel, hf⟩ := h0
    rcases open_ints Try.underlying23 Try.underlying26 (by kernel_rfl) hf with ⟨hcs, hxx⟩ | ⟨x, l, c, zs, hcs, _, hl, hm, hz, hxx, hcell, hwz⟩
    · simp [Value.cells] at hcs
      obtain ⟨rfl, rfl, rfl⟩ := hcs
      exact ⟨[], .inl ⟨rfl, rfl, rfl, rfl⟩, by omega⟩
    · simp [Value.cells] at hcs
      obtain ⟨rfl, rfl, rfl⟩ := hcs
      refine ⟨zs, .inr ⟨_, rfl, hl, hm, by simpa using hz, hcell, hwz⟩, ?_⟩
      have hzz : zs.length = cap0 := by simpa using hz
      have hs3 := sized_slice hsz (j := 0) (t := 23) (e := 26) rfl (by rw [(Prod.mk.inj hxx).1]; rfl) Try.underlying23
      rw [show Try.prog.bytesOf 26 = 8 from by kernel_rfl] at hs3
      simp only [lits, List.length_map, List.length_take, List.length_drop, reachBytes] at hs3
      omega
  obtain ⟨a1, rfl, rfl, rfl, w1⟩ := open_int Try.underlying26 (hval 1 26 v1 rfl rfl) h1
  clear hA0 hval0
  refine (walk a0 len0 cap0 z0 a1 W w0 w1 r0_).mono fun e W' ⟨he, bel⟩ => ?_
  subst he
  exact ⟨_, rfl, _, _, _, [], _, [], hW', trodAll_mk1 (shut_bool Try.underlying4 _), (trodAll_cons_mk (Below.trod laidOut (by kernel_rfl) (of_decide_eq_true (by kernel_rfl)) k0 bel lt0) (trodAll_cons_mk (shut_int Try.underlying26 w1) trodAll_mk0)), rfl, bel.frame _, fun h => by cases h⟩

theorem over : Rows.octetBackRow.holds Try.pinned (OpenSpec.ofChange Rows.octetBackSpec) :=
  OpenClaim.holds_of_wide 7 Try.f7 rfl rfl rfl rfl rfl rfl rfl ⟨rfl, rfl, rfl, rfl, rfl⟩ rfl rfl rfl rfl rfl (by kernel_rfl) Try.func7 (by kernel_rfl)
    (of_decide_eq_true (by kernel_rfl)) (by unfold Func.isWrapper; first | (rw [if_pos (by decide +kernel)]; kernel_rfl) | (rw [if_neg (by decide +kernel)]; exact ⟨rfl, rfl⟩))
    (fun os started H enc _ => lifted os started H enc)

theorem proved : Rows.OctetBackSaid := over
end Go.Proofs.Ytkcjeholgeneoaa.octetBack

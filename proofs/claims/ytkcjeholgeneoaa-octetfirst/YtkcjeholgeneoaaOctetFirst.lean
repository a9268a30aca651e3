/-
  octet.First of any two lists of bytes answers the first place at which they differ or one has ended, and -1 where they are the same (OctetFirst is true of every input).
-/
import Derived.Test.YtkcjeholgeneoaaRows
import Derived.WalkKit
import Derived.ProofKit
import Derived.OpenShut
import Derived.ShutString
import Derived.ChangeOld
import Derived.Below
import Derived.Test.YtkcjeholgeneoaaOctAwake
namespace Go.Proofs.Ytkcjeholgeneoaa.octetFirst
open Go.ChangeShapes Go.WideShapes Go.ChangeAt Go.RowKit
open Go.ChangeMaps (open_string shut_string)
set_option linter.unusedVariables false

theorem own : ownKnob Try.prog.godebug = none := by kernel_rfl
theorem laidOut : laidOutB Try.prog = true := by kernel_rfl

set_option maxHeartbeats 1000000 in
theorem walk (a0 : Option Addr) (len0 cap0 : Nat) (z0 : List Int) (a1 : Option Addr) (len1 cap1 : Nat) (z1 : List Int) (w : World) (w0 : IsRow .u8 w a0 len0 cap0 z0) (w1 : IsRow .u8 w a1 len1 cap1 z1) :
    Calls Try.prog 6 #[.slice a0 len0 cap0, .slice a1 len1 cap1] w fun e w' => e = .returned (.bool true) ∧ Below w.heap.size w w' := by
  have hA := w0.row
  have hB := w1.row
  clear w0 w1
  generalize z0.take len0 = xs at *
  generalize z1.take len1 = ys at *
  have hx := hA.len
  have hy := hB.len
  have hcx := hA.cap
  have hcy := hB.cap
  unfold maxLen at hcx hcy
  have HA := hide (hA)
  have HB := hide (hB)
  clear hA hB
  -- what the three calls of First answer, in any world that has kept what was there
  have h1 : Hid (∀ W, Below w.heap.size w W → Calls Try.prog 15 #[.slice a0 len0 cap0, .slice a1 len1 cap1] W fun e w' => e = .returned (.int .i64 (parts xs ys 0)) ∧ ∃ nq, w' = W.drewN nq) :=
    fun W hW => first_any xs ys _ _ _ _ _ _ W (HA.out.below hW) (HB.out.below hW)
  have h2 : Hid (∀ W, Below w.heap.size w W → Calls Try.prog 15 #[.slice a1 len1 cap1, .slice a0 len0 cap0] W fun e w' => e = .returned (.int .i64 (parts xs ys 0)) ∧ ∃ nq, w' = W.drewN nq) :=
    fun W hW => by rw [parts_symm]; exact first_any ys xs _ _ _ _ _ _ W (HB.out.below hW) (HA.out.below hW)
  have h3 : Hid (∀ W, Below w.heap.size w W → Calls Try.prog 15 #[.slice a0 len0 cap0, .slice a0 len0 cap0] W fun e w' => e = .returned (.int .i64 (-1)) ∧ ∃ nq, w' = W.drewN nq) :=
    fun W hW => by rw [← parts_same xs 0]; exact first_any xs xs _ _ _ _ _ _ W (HA.out.below hW) (HA.out.below hW)
  obtain ⟨r, hr⟩ : ∃ r, Hid (parts xs ys 0 = r) := ⟨_, rfl⟩
  rw [hr.out] at h1 h2
  go_enter Try.func6, Try.ntmps6
  go_wp2_with fail
  refine (awake_any _).mono ?_
  rintro e w1 ⟨rfl, hbel⟩
  go_wp2
  go_loopw [5] (fun i wr => ∃ k nq : Nat, k ≤ len0 ∧ k ≤ len1 ∧ i = .int .i64 k ∧ wr = w1.drewN nq ∧ Hid (xs.take k = ys.take k)) (fun i _ => len0 - (intOf i).toNat)
  case atStart => exact ⟨0, 0, Nat.zero_le _, Nat.zero_le _, rfl, rfl, rfl⟩
  case round =>
    obtain ⟨k, nq, hk0, hk1, rfl, rfl, hpre⟩ := hrel
    have hbw : Hid (Below w.heap.size w (w1.drewN nq)) := below_drewN hbel nq
    by_cases l1 : (k : Int) < (len0 : Int)
    · by_cases l2 : (k : Int) < (len1 : Int)
      · obtain ⟨bx, ox, rfl, hbx, hcx'⟩ := (HA.out.below hbel).cell k (by omega)
        obtain ⟨bY, oy, rfl, hby, hcy'⟩ := (HB.out.below hbel).cell k (by omega)
        obtain ⟨x, hxk⟩ : ∃ x, Hid (xs.getD k 0 = x) := ⟨_, rfl⟩
        obtain ⟨y, hyk⟩ : ∃ y, Hid (ys.getD k 0 = y) := ⟨_, rfl⟩
        rw [hxk.out] at hcx'
        rw [hyk.out] at hcy'
        by_cases he : x = y
        · subst he
          go_wp2
          go_quiet (fail)
          go_wp2
          go_roundw
          case rel =>
            refine ⟨k + 1, _, by omega, by omega, by go_num, rfl, take_snoc_eq xs ys k (by omega) (by omega) hpre.out ?_⟩
            have hxk := hxk.out
            have hyk := hyk.out
            simp only [List.getD_eq_getElem?_getD, List.getElem?_eq_getElem (show k < xs.length by omega), List.getElem?_eq_getElem (show k < ys.length by omega), Option.getD_some] at hxk hyk
            rw [hxk, hyk]
          case measure => simp [intOf]; omega
        · have hb : (x == y) = false := by simpa using he
          have hrk : r = k := by
            rw [← hr.out]
            refine parts_at xs ys k (by omega) (by omega) hpre.out ?_
            have hxk := hxk.out
            have hyk := hyk.out
            simp only [List.getD_eq_getElem?_getD, List.getElem?_eq_getElem (show k < xs.length by omega), List.getElem?_eq_getElem (show k < ys.length by omega), Option.getD_some] at hxk hyk
            rw [hxk, hyk]; exact he
          subst hrk
          go_wp2
          go_quiet (fail)
          have hne0 : ((k : Int) == (len0 : Int)) = false := by simp; omega
          go_wp2_with fail
          refine Calls.mono (h1.out _ (below_drewN hbel _)) ?_
          rintro e w2 ⟨rfl, q2, rfl⟩
          go_wp2_with fail
          refine Calls.mono (h2.out _ (below_drewN hbel _)) ?_
          rintro e w2 ⟨rfl, q3, rfl⟩
          go_wp2_with fail
          refine Calls.mono (h3.out _ (below_drewN hbel _)) ?_
          rintro e w2 ⟨rfl, q4, rfl⟩
          go_wp2
          go_ret
          exact ⟨rfl, below_drewN hbel _⟩
      · have hkk : k = len1 := by omega
        subst hkk
        have hrk : r = (k : Int) := by
          rw [← hr.out, parts_short xs ys k (by omega) hpre.out (by omega)]
        subst hrk
        have hne0 : ((k : Int) == (len0 : Int)) = false := by simp; omega
        have hd2 : decide ((k : Int) < (k : Int)) = false := by simp
        go_wp2
        go_quiet (fail)
        go_wp2_with fail
        refine Calls.mono (h1.out _ (below_drewN hbel _)) ?_
        rintro e w2 ⟨rfl, q2, rfl⟩
        go_wp2_with fail
        refine Calls.mono (h2.out _ (below_drewN hbel _)) ?_
        rintro e w2 ⟨rfl, q3, rfl⟩
        go_wp2_with fail
        refine Calls.mono (h3.out _ (below_drewN hbel _)) ?_
        rintro e w2 ⟨rfl, q4, rfl⟩
        go_wp2
        go_ret
        exact ⟨rfl, below_drewN hbel _⟩
    · have hkk : k = len0 := by omega
      subst hkk
      have hd1 : decide ((k : Int) < (k : Int)) = false := by simp
      by_cases hl : k = len1
      · subst hl
        have hrk : r = -1 := by
          have hp := hpre.out
          rw [List.take_of_length_le (by omega), List.take_of_length_le (by omega)] at hp
          rw [← hr.out, hp, parts_same]
        subst hrk
        go_wp2
        go_quiet (fail)
        go_wp2_with fail
        refine Calls.mono (h1.out _ (below_drewN hbel _)) ?_
        rintro e w2 ⟨rfl, q2, rfl⟩
        go_wp2_with fail
        refine Calls.mono (h2.out _ (below_drewN hbel _)) ?_
        rintro e w2 ⟨rfl, q3, rfl⟩
        go_wp2_with fail
        refine Calls.mono (h3.out _ (below_drewN hbel _)) ?_
        rintro e w2 ⟨rfl, q4, rfl⟩
        go_wp2
        go_ret
        exact ⟨rfl, below_drewN hbel _⟩
      · have hrk : r = (k : Int) := by
          rw [← hr.out, parts_short xs ys k (by omega) hpre.out (by omega)]
        subst hrk
        have hne1 : ((k : Int) == (len1 : Int)) = false := by simp; omega
        go_wp2
        go_quiet (fail)
        go_wp2_with fail
        refine Calls.mono (h1.out _ (below_drewN hbel _)) ?_
        rintro e w2 ⟨rfl, q2, rfl⟩
        go_wp2_with fail
        refine Calls.mono (h2.out _ (below_drewN hbel _)) ?_
        rintro e w2 ⟨rfl, q3, rfl⟩
        go_wp2_with fail
        refine Calls.mono (h3.out _ (below_drewN hbel _)) ?_
        rintro e w2 ⟨rfl, q4, rfl⟩
        go_wp2
        go_ret
        exact ⟨rfl, below_drewN hbel _⟩

set_option maxRecDepth 100000 in
theorem lifted (os : Os) (started : os.Started) (H : Type) (enc : TypeId × Value → H) :
    ReturnsInHanded {} Try.checked os 6 .any (Rows.octetFirstSpec.pre6 enc Try.prog Try.f6 Rows.octetFirstRow.domain false) (Rows.octetFirstSpec.post enc Try.prog Try.f6 false true false false) := by
  refine returnsInHanded_of_change (C := Try.checked) own started (by kernel_rfl) Try.func6
    (ChangeSpec.witness6 (enc := enc) (C := Try.checked) false ⟨#[], #[.slice none 0 0, .slice none 0 0], []⟩ 8 (by kernel_rfl) (by kernel_rfl) (by kernel_rfl) (by kernel_rfl)) ?_
  intro W base args ds gs before hval0 hW hcnd _
  have hval : ∀ (j : Nat) t v, Try.f6.params[j]? = some t → args[j]? = some v → Value.okWide Try.prog W .any base t v := hval0
  have hW' := hW
  obtain ⟨p, q, hA0, hV, rfl, hfz, hnd⟩ := hW
  have hA : DataW.TrodAll enc Try.prog W 0 (fun _ => true) true Try.f6.params.toList args.toList ds p := hA0
  rw [Try.params6] at hA hval
  obtain ⟨v0, vs0, d0, ds0, p0, q0, hargs, rfl, rfl, h0, r0⟩ := trodAll_cons hA
  obtain ⟨v1, vs1, d1, ds1, p1, q1, rfl, rfl, rfl, h1, r1⟩ := trodAll_cons r0
  obtain ⟨rfl, rfl, rfl⟩ := trodAll_nil r1
  obtain rfl : args = #[v0, v1] := by cases args; simp_all
  obtain ⟨rfl, rfl⟩ := trodVars_none hV
  obtain ⟨a0, len0, cap0, rfl⟩ := okWide_slice Try.underlying22 (hval 0 22 v0 rfl rfl)
  have k0 := h0
  have lt0 : ∀ x ∈ p0, x.block < W.heap.size := by obtain ⟨m, hm⟩ := k0; exact DataW.trod_lt m _ _ _ hm
  obtain ⟨z0, w0⟩ : ∃ zs, IsRow .u8 W a0 len0 cap0 zs := by
    obtain ⟨fuel, hf⟩ := h0
    rcases open_ints Try.underlying22 Try.underlying5 (by kernel_rfl) hf with ⟨hcs, _⟩ | ⟨x, l, c, zs, hcs, _, hl, hm, hz, _, hcell, hwz⟩
    · simp [Value.cells] at hcs
      obtain ⟨rfl, rfl, rfl⟩ := hcs
      exact ⟨[], .inl ⟨rfl, rfl, rfl, rfl⟩⟩
    · simp [Value.cells] at hcs
      obtain ⟨rfl, rfl, rfl⟩ := hcs
      exact ⟨zs, .inr ⟨_, rfl, hl, hm, by simpa using hz, hcell, hwz⟩⟩
  obtain ⟨a1, len1, cap1, rfl⟩ := okWide_slice Try.underlying22 (hval 1 22 v1 rfl rfl)
  have k1 := h1
  have lt1 : ∀ x ∈ p1, x.block < W.heap.size := by obtain ⟨m, hm⟩ := k1; exact DataW.trod_lt m _ _ _ hm
  obtain ⟨z1, w1⟩ : ∃ zs, IsRow .u8 W a1 len1 cap1 zs := by
    obtain ⟨fuel, hf⟩ := h1
    rcases open_ints Try.underlying22 Try.underlying5 (by kernel_rfl) hf with ⟨hcs, _⟩ | ⟨x, l, c, zs, hcs, _, hl, hm, hz, _, hcell, hwz⟩
    · simp [Value.cells] at hcs
      obtain ⟨rfl, rfl, rfl⟩ := hcs
      exact ⟨[], .inl ⟨rfl, rfl, rfl, rfl⟩⟩
    · simp [Value.cells] at hcs
      obtain ⟨rfl, rfl, rfl⟩ := hcs
      exact ⟨zs, .inr ⟨_, rfl, hl, hm, by simpa using hz, hcell, hwz⟩⟩
  clear hA0 hval0
  refine (walk a0 len0 cap0 z0 a1 len1 cap1 z1 W w0 w1).mono fun e W' ⟨he, bel⟩ => ?_
  subst he
  exact ⟨_, rfl, _, _, _, [], _, [], hW', trodAll_mk1 (shut_bool Try.underlying4 _), (trodAll_cons_mk (Below.trod laidOut (by kernel_rfl) (of_decide_eq_true (by kernel_rfl)) k0 bel lt0) (trodAll_cons_mk (Below.trod laidOut (by kernel_rfl) (of_decide_eq_true (by kernel_rfl)) k1 bel lt1) trodAll_mk0)), rfl, bel.frame _, fun h => by cases h⟩

theorem over : Rows.octetFirstRow.holds Try.pinned (OpenSpec.ofChange Rows.octetFirstSpec) :=
  OpenClaim.holds_of_wide 6 Try.f6 rfl rfl rfl rfl rfl rfl rfl ⟨rfl, rfl, rfl, rfl, rfl⟩ rfl rfl rfl rfl rfl (by kernel_rfl) Try.func6 (by kernel_rfl)
    (of_decide_eq_true (by kernel_rfl)) (by unfold Func.isWrapper; first | (rw [if_pos (by decide +kernel)]; kernel_rfl) | (rw [if_neg (by decide +kernel)]; exact ⟨rfl, rfl⟩))
    (fun os started H enc _ => lifted os started H enc)

theorem proved : Rows.OctetFirstSaid := over
end Go.Proofs.Ytkcjeholgeneoaa.octetFirst

/-
  octet.Small of any bytes, place and bound answers Get's number where there is one that is not above the bound; else 0, the place and false (OctetSmall is true of every input).
-/
import Derived.Test.YtkcjeholgeneoaaRows
import Derived.WalkKit
import Derived.ProofKit
import Derived.OpenShut
import Derived.ShutString
import Derived.ChangeOld
import Derived.Below
import Derived.Test.YtkcjeholgeneoaaOctAwake
namespace Go.Proofs.Ytkcjeholgeneoaa.octetSmall
open Go.ChangeShapes Go.WideShapes Go.ChangeAt Go.RowKit
open Go.ChangeMaps (open_string shut_string)
set_option linter.unusedVariables false

theorem own : ownKnob Try.prog.godebug = none := by kernel_rfl
theorem laidOut : laidOutB Try.prog = true := by kernel_rfl

set_option maxHeartbeats 1000000 in
theorem walk (a0 : Option Addr) (len0 cap0 : Nat) (z0 : List Int) (a1 : Int) (a2 : Int) (w : World) (w0 : IsRow .u8 w a0 len0 cap0 z0) (w1 : (Lit.int .i64 a1).wf = true) (w2 : (Lit.int .i64 a2).wf = true) :
    Calls Try.prog 5 #[.slice a0 len0 cap0, .int .i64 a1, .int .i64 a2] w fun e w' => e = .returned (.bool true) ∧ Below w.heap.size w w' := by
  have hat := wf_i64 w1
  have hmo := wf_i64 w2
  have hrow := w0.row
  have hb8 := w0.bytes
  have hmx := hrow.cap
  have hlen := hrow.len
  clear w0 w1 w2
  generalize z0.take len0 = zs at *
  unfold maxLen at hmx
  by_cases hin : a1 < 0 ∨ (len0 : Int) - 8 < a1
  · have hno := fun w => small_noget (.slice a0 len0 cap0) a1 a2 w (get_no a0 len0 cap0 a1 w (by unfold maxLen; omega) hin hat)
    by_cases h0 : a1 < 0
    · go_enter Try.func5, Try.ntmps5
      go_wp2_with fail
      refine (awake_any _).mono ?_
      rintro e w1 ⟨rfl, hbel⟩
      go_wp2_with fail
      refine (hno _).mono ?_
      rintro e w2 ⟨rfl, rfl⟩
      go_wp2
      go_ret
      exact ⟨rfl, hbel⟩
    · have h1 : (len0 : Int) - 8 < a1 := by omega
      go_enter Try.func5, Try.ntmps5
      go_wp2_with fail
      refine (awake_any _).mono ?_
      rintro e w1 ⟨rfl, hbel⟩
      go_wp2_with fail
      refine (hno _).mono ?_
      rintro e w2 ⟨rfl, rfl⟩
      go_wp2
      go_ret
      exact ⟨rfl, hbel⟩
  · obtain ⟨p, rfl⟩ : ∃ p : Nat, a1 = p := ⟨a1.toNat, by omega⟩
    have h0 : ¬ ((p : Int) < 0) := by omega
    have h1 : ¬ ((len0 : Int) - 8 < (p : Int)) := by omega
    have hp : p + 8 ≤ len0 := by omega
    obtain ⟨b, off, rfl, hlt, _⟩ := hrow.cell p (by omega)
    have h8 : ((zs.drop p).take 8).length = 8 := by simp; omega
    have hz8 : Bytes8 ((zs.drop p).take 8) := fun z hz => hb8 z (List.mem_of_mem_drop (List.mem_of_mem_take hz))
    have hnb := num8 _ hz8 (by omega)
    have HR := hide (hrow)
    clear hrow hin hb8
    obtain ⟨n, hn⟩ : ∃ n, Hid (num ((zs.drop p).take 8) = n) := ⟨_, rfl⟩
    rw [hn.out] at hnb
    have HC : ∀ W, Below w.heap.size w W → Hid _ := fun W hW => (HR.out.below hW).piece p 8 hp
    have hcall : ∀ W, Below w.heap.size w W → Hid (Calls Try.prog 14 #[.slice (some ⟨b, off, none⟩) len0 cap0, .int .i64 (p : Int), .int .i64 a2] W fun e w' =>
        e = .returned (if smallB n a2 then .tuple #[.int .i64 n, .int .i64 ((p : Int) + 8), .bool true] else .tuple #[.int .i64 0, .int .i64 (p : Int), .bool false]) ∧ w' = W) := by
      intro W hW
      refine small_get _ _ _ n _ W hnb.1 hnb.2 hmo.2 ?_
      rw [← hn.out]
      exact get_yes _ b off len0 cap0 p _ h8 hz8 hmx.1 (by unfold maxLen; omega) hp (HC W hW).out
    have hnum : ∀ W c, Below w.heap.size w W → Hid (Calls Try.prog 12 #[.slice (some ⟨b, off + p, none⟩) 8 c] W fun e w' => e = .returned (.int .u64 n) ∧ w' = W) := by
      intro W c hW
      rw [← hn.out]
      exact number_any _ b (off + p) 8 _ _ h8 (by omega) hz8 (HC W hW).out
    have HH := hide (hcall)
    have HN := hide (hnum)
    clear hcall hnum HC HR hz8 h8
    by_cases hneg : a2 < 0
    · have hs : smallB n a2 = false := by simp [smallB]; omega
      rw [hs, if_neg (by simp)] at HH
      go_enter Try.func5, Try.ntmps5
      go_wp2_with fail
      refine (awake_any _).mono ?_
      rintro e w1 ⟨rfl, hbel⟩
      go_wp2_with fail
      refine Calls.mono (HH.out _ hbel).out ?_
      rintro e w2 ⟨rfl, rfl⟩
      go_wp2
      go_ret
      exact ⟨rfl, hbel⟩
    · by_cases hle : n ≤ a2
      · have hs : smallB n a2 = true := by simp [smallB]; omega
        rw [hs, if_pos rfl] at HH
        go_enter Try.func5, Try.ntmps5
        go_wp2_with fail
        refine (awake_any _).mono ?_
        rintro e w1 ⟨rfl, hbel⟩
        go_wp2_with fail
        refine Calls.mono (HH.out _ hbel).out ?_
        rintro e w2 ⟨rfl, rfl⟩
        go_wp2_with fail
        refine Calls.mono (HN.out _ _ hbel).out ?_
        rintro e w2 ⟨rfl, rfl⟩
        go_wp2_with fail
        refine Calls.mono (HN.out _ _ hbel).out ?_
        rintro e w2 ⟨rfl, rfl⟩
        go_wp2
        go_ret
        exact ⟨rfl, hbel⟩
      · have hs : smallB n a2 = false := by simp [smallB]; omega
        rw [hs, if_neg (by simp)] at HH
        go_enter Try.func5, Try.ntmps5
        go_wp2_with fail
        refine (awake_any _).mono ?_
        rintro e w1 ⟨rfl, hbel⟩
        go_wp2_with fail
        refine Calls.mono (HH.out _ hbel).out ?_
        rintro e w2 ⟨rfl, rfl⟩
        go_wp2_with fail
        refine Calls.mono (HN.out _ _ hbel).out ?_
        rintro e w2 ⟨rfl, rfl⟩
        go_wp2
        go_ret
        exact ⟨rfl, hbel⟩

set_option maxRecDepth 100000 in
theorem lifted (os : Os) (started : os.Started) (H : Type) (enc : TypeId × Value → H) :
    ReturnsInHanded {} Try.checked os 5 .any (Rows.octetSmallSpec.pre6 enc Try.prog Try.f5 Rows.octetSmallRow.domain false) (Rows.octetSmallSpec.post enc Try.prog Try.f5 false true false false) := by
  refine returnsInHanded_of_change (C := Try.checked) own started (by kernel_rfl) Try.func5
    (ChangeSpec.witness6 (enc := enc) (C := Try.checked) false ⟨#[], #[.slice none 0 0, .int .i64 0, .int .i64 0], []⟩ 8 (by kernel_rfl) (by kernel_rfl) (by kernel_rfl) (by kernel_rfl)) ?_
  intro W base args ds gs before hval0 hW hcnd _
  have hval : ∀ (j : Nat) t v, Try.f5.params[j]? = some t → args[j]? = some v → Value.okWide Try.prog W .any base t v := hval0
  have hW' := hW
  obtain ⟨p, q, hA0, hV, rfl, hfz, hnd⟩ := hW
  have hA : DataW.TrodAll enc Try.prog W 0 (fun _ => true) true Try.f5.params.toList args.toList ds p := hA0
  rw [Try.params5] at hA hval
  obtain ⟨v0, vs0, d0, ds0, p0, q0, hargs, rfl, rfl, h0, r0⟩ := trodAll_cons hA
  obtain ⟨v1, vs1, d1, ds1, p1, q1, rfl, rfl, rfl, h1, r1⟩ := trodAll_cons r0
  obtain ⟨v2, vs2, d2, ds2, p2, q2, rfl, rfl, rfl, h2, r2⟩ := trodAll_cons r1
  obtain ⟨rfl, rfl, rfl⟩ := trodAll_nil r2
  obtain rfl : args = #[v0, v1, v2] := by cases args; simp_all
  obtain ⟨rfl, rfl⟩ := trodVars_none hV
  obtain ⟨a0, len0, cap0, rfl⟩ := okWide_slice Try.underlying22 (hval 0 22 v0 rfl rfl)
  have k0 := h0
  have lt0 : ∀ x ∈ p0, x.block < W.heap.size := by obtain ⟨m, hm⟩ := k0; exact DataW.trod_lt m _ _ _ hm
  obtain ⟨z0, w0⟩ : ∃ zs, IsRow .u8 W a0 len0 cap0 zs := by
    obtain ⟨fuel, hf⟩ := h0
    rcases open_ints Try.underlying22 Try.underlying5 (by kernel_rfl) hf with ⟨hcs, _⟩ | ⟨x, l, c, zs, hcs, _, hl, hm, hz, _, hcell, hwz⟩
    · simp [Value.cells] at hcs
      obtain ⟨rfl, rfl, rfl⟩ := hcs
      exact ⟨[], .inl ⟨rfl, rfl, rfl, rfl⟩⟩
    · simp [Value.cells] at hcs
      obtain ⟨rfl, rfl, rfl⟩ := hcs
      exact ⟨zs, .inr ⟨_, rfl, hl, hm, by simpa using hz, hcell, hwz⟩⟩
  obtain ⟨a1, rfl, rfl, rfl, w1⟩ := open_int Try.underlying3 (hval 1 3 v1 rfl rfl) h1
  obtain ⟨a2, rfl, rfl, rfl, w2⟩ := open_int Try.underlying3 (hval 2 3 v2 rfl rfl) h2
  clear hA0 hval0
  refine (walk a0 len0 cap0 z0 a1 a2 W w0 w1 w2).mono fun e W' ⟨he, bel⟩ => ?_
  subst he
  exact ⟨_, rfl, _, _, _, [], _, [], hW', trodAll_mk1 (shut_bool Try.underlying4 _), (trodAll_cons_mk (Below.trod laidOut (by kernel_rfl) (of_decide_eq_true (by kernel_rfl)) k0 bel lt0) (trodAll_cons_mk (shut_int Try.underlying3 w1) (trodAll_cons_mk (shut_int Try.underlying3 w2) trodAll_mk0))), rfl, bel.frame _, fun h => by cases h⟩

theorem over : Rows.octetSmallRow.holds Try.pinned (OpenSpec.ofChange Rows.octetSmallSpec) :=
  OpenClaim.holds_of_wide 5 Try.f5 rfl rfl rfl rfl rfl rfl rfl ⟨rfl, rfl, rfl, rfl, rfl⟩ rfl rfl rfl rfl rfl (by kernel_rfl) Try.func5 (by kernel_rfl)
    (of_decide_eq_true (by kernel_rfl)) (by unfold Func.isWrapper; first | (rw [if_pos (by decide +kernel)]; kernel_rfl) | (rw [if_neg (by decide +kernel)]; exact ⟨rfl, rfl⟩))
    (fun os started H enc _ => lifted os started H enc)

theorem proved : Rows.OctetSmallSaid := over
end Go.Proofs.Ytkcjeholgeneoaa.octetSmall

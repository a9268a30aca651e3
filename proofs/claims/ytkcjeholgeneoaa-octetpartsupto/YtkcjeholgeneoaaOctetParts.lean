/-
  numbers that are laid in two parts are laid as all at once (OctetParts is true of every input of bulk at most 1048576).
-/
import Derived.Test.YtkcjeholgeneoaaRows
import Derived.WalkKit
import Derived.ProofKit
import Derived.OpenShut
import Derived.ShutString
import Derived.ChangeOld
import Derived.Below
import Derived.JoinedCond
import Derived.Test.YtkcjeholgeneoaaOctAwake
import Derived.Test.YtkcjeholgeneoaaRowLaws
import Derived.Deep.RegionLaw
import Derived.Deep.DrawnRows
import Derived.Test.YtkcjeholgeneoaaBulk
namespace Go.Proofs.Ytkcjeholgeneoaa.octetParts
open Go.ChangeShapes Go.WideShapes Go.ChangeAt Go.RowKit
open Go.ChangeMaps (open_string shut_string)
set_option linter.unusedVariables false

theorem own : ownKnob Try.prog.godebug = none := by kernel_rfl
theorem laidOut : laidOutB Try.prog = true := by kernel_rfl

attribute [local go_sem ↓] Go.wp_at_zero Go.wp_at_succ
theorem info64 : (Try.prog.info? 26).map (fun i => (i.zero, i.size, i.bytes)) = some (some (.int .u64 0), 1, 8) := by kernel_rfl
set_option maxHeartbeats 1000000 in
theorem walk (a0 : Option Addr) (len0 cap0 : Nat) (z0 : List Int) (a1 : Option Addr) (len1 cap1 : Nat) (z1 : List Int) (a2 : Option Addr) (len2 cap2 : Nat) (z2 : List Int) (w : World) (w0 : IsRow .u8 w a0 len0 cap0 z0) (w1 : IsRow .u64 w a1 len1 cap1 z1) (w2 : IsRow .u64 w a2 len2 cap2 z2) (hbulk : cap0 + cap1 + cap2 ≤ 1048576) :
    Calls Try.prog 9 #[.slice a0 len0 cap0, .slice a1 len1 cap1, .slice a2 len2 cap2] w fun e w' => e = .returned (.bool true) ∧ Below w.heap.size w w' := by
  have hB := w0.row
  have hN := w1.row
  have hM := w2.row
  have hu := w1.u64
  have hv := w2.u64
  clear w0 w1 w2
  generalize z0.take len0 = bs at *
  generalize z1.take len1 = ns at *
  generalize z2.take len2 = ms at *
  have hbc := hB.cap
  have hnc := hN.cap
  have hmc := hM.cap
  unfold maxLen at hbc hnc hmc
  have HB := hide (hB)
  have HN := hide (hN)
  have HM := hide (hM)
  have HU := hide (hu)
  have HV := hide (hv)
  have HUV : Hid (∀ n ∈ ns ++ ms, 0 ≤ n ∧ n ≤ 18446744073709551615) := fun n hn => by
    rcases List.mem_append.1 hn with h | h
    · exact hu n h
    · exact hv n h
  clear hB hN hM hu hv
  obtain ⟨i0, hi, hz0, hz1, hz2⟩ := info_parts info64
  go_enter Try.func9, Try.ntmps9
  go_wp2_with fail
  refine (awake_any _).mono ?_
  rintro e w1 ⟨rfl, hbel⟩
  have HB1 := hide (HB.out.below hbel)
  have HN1 := hide (HN.out.below hbel)
  have HM1 := hide (HM.out.below hbel)
  go_wp2
  obtain ⟨T, hT⟩ : ∃ T, Hid (strOfNums (bs ++ (flat ns ++ flat ms)) = T) := ⟨_, rfl⟩
  go_region_law
    (first
      | (go_simp
         go_at_call_of 11 (Value.slice a1 len1 cap1)
         refine (put_any bs ns _ _ _ _ _ _ _ ?_ ?_ HU.out (by omega)).mono ?_
         · exact HB1.out.drewN 1
         · exact HN1.out.drewN 1
         rintro e w2 ⟨rfl, hown2, hbel2⟩
         have R2 := hide (RowIn.owned hown2)
         have hb2 : Hid (Below w1.heap.size w1 w2) := (Below.refl _ _).drew.trans hbel2
         clear hown2 hbel2)
      | (go_simp
         go_at_call_of 11 (Value.slice a2 len2 cap2)
         refine (put_any (bs ++ flat ns) ms _ _ _ _ _ _ _ R2.out (HM1.out.below hb2.out) HV.out (by omega)).mono ?_
         rintro e w3 ⟨rfl, hown3, hbel3⟩
         have R3 := hide (RowIn.owned hown3)
         have hb3 : Hid (Below w1.heap.size w1 w3) := hb2.out.trans (hbel3.mono hb2.out.size)
         have cv3 := conv_row R3.out
         rw [List.append_assoc, hT.out] at cv3
         clear hown3 hbel3)
      | (refine step_append_rows rfl (.const (.slice none 0 0)) (.tmp 16) 23 rfl w3.heap.size 26 i0 .u64 (.int .u64 0) 8 Try.underlying23 hi hz0 hz1 hz2 rfl (.slice none 0 0) 0 [] rfl (World.ownsRow_nil _ _ _ _) a1 len1 cap1 ns rfl (HN1.out.below hb3.out) (by unfold maxLen; omega) (by omega) (Nat.le_refl _) ?_
         intro ao4 c4 w4 hown4 hgrow4
         rw [Nat.zero_add]
         rw [Nat.zero_add, List.nil_append] at hown4
         have hb4 : Hid (Below w3.heap.size w3 w4) := (Below.refl _ _).grown hgrow4 (Nat.le_refl _) (fun k h => by cases h)
         have H4 := hide (hown4)
         have cv4 := conv_row (R3.out.below hb4.out)
         rw [List.append_assoc, hT.out] at cv4
         clear hown4 hgrow4)
      | (refine step_append_rows rfl (.tmp 17) (.tmp 18) 23 rfl w3.heap.size 26 i0 .u64 (.int .u64 0) 8 Try.underlying23 hi hz0 hz1 hz2 rfl (.slice ao4 len1 c4) len1 ns rfl H4.out a2 len2 cap2 ms rfl (HM1.out.below (hb3.out.trans (hb4.out.mono hb3.out.size))) (by unfold maxLen; omega) (by omega) hb4.out.size ?_
         intro ao5 c5 w5 hown5 hgrow5
         have hb5 : Hid (Below w3.heap.size w3 w5) := hb4.out.grown hgrow5 hb4.out.size (fun k h => (H4.out.lt k h).1)
         have H5 := hide (hown5)
         have cv5 := conv_row (R3.out.below hb5.out)
         rw [List.append_assoc, hT.out] at cv5
         clear hown5 hgrow5)
      | (go_simp
         go_at_call_of 11 (Value.slice a0 len0 cap0)
         obtain ⟨ao6, c6, e6, R6⟩ := RowIn.ofOwned H5.out
         cases e6
         refine (put_any bs (ns ++ ms) _ _ _ _ _ _ _ (HB1.out.below (hb3.out.trans (hb5.out.mono hb3.out.size))) R6 HUV.out (by omega)).mono ?_
         rintro e w6 ⟨rfl, hown6, hbel6⟩
         have hb6 : Hid (Below w3.heap.size w3 w6) := hb5.out.trans (hbel6.mono hb5.out.size)
         have cv6 := conv_row (R3.out.below hb6.out)
         have cv7 := conv_row (RowIn.owned hown6)
         rw [List.append_assoc, hT.out] at cv6
         rw [flat_append, hT.out] at cv7
         clear hown6 hbel6 R6))
  all_goals
    go_wp2
    go_ret
    exact ⟨rfl, hbel.trans ((hb3.out.trans (hb6.out.mono hb3.out.size)).mono hbel.size)⟩

set_option maxRecDepth 100000 in
theorem lifted (os : Os) (started : os.Started) (H : Type) (enc : TypeId × Value → H) (F : Stop.Interp) :
    ReturnsInHanded {} Try.checked os 9 .any ((Rows.OpenSpec.upto Rows.octetPartsSpec).pre6 enc Try.prog Try.f9 Rows.octetPartsUptoRow.domain false) (((Rows.OpenSpec.upto Rows.octetPartsSpec).at F).post enc Try.prog Try.f9 false true false false) := by
  refine returnsInHanded_of_cond (C := Try.checked) (s := Rows.OpenSpec.upto Rows.octetPartsSpec) (k := Rows.uptoSmall) rfl own started (by kernel_rfl) Try.func9
    (OpenSpec.witness (enc := enc) (C := Try.checked) (s := Rows.OpenSpec.upto Rows.octetPartsSpec) (k := Rows.uptoSmall) rfl false ⟨#[], #[.slice none 0 0, .slice none 0 0, .slice none 0 0], []⟩ 8 (by kernel_rfl) (by kernel_rfl) (by kernel_rfl)
      (x := ([.nil, .nil, .nil], [], [])) (by kernel_rfl) rfl (by kernel_rfl)) ?_
  intro W base args ds gs before hval0 hW hcnd hk _
  have hval : ∀ (j : Nat) t v, Try.f9.params[j]? = some t → args[j]? = some v → Value.okWide Try.prog W .any base t v := hval0
  have hW' := hW
  obtain ⟨p, q, hA0, hV, rfl, hfz, hnd⟩ := hW
  have hA : DataW.TrodAll enc Try.prog W 0 (fun _ => true) true Try.f9.params.toList args.toList ds p := hA0
  rw [Try.params9] at hA hval
  obtain ⟨v0, vs0, d0, ds0, p0, q0, hargs, rfl, rfl, h0, r0⟩ := trodAll_cons hA
  obtain ⟨v1, vs1, d1, ds1, p1, q1, rfl, rfl, rfl, h1, r1⟩ := trodAll_cons r0
  obtain ⟨v2, vs2, d2, ds2, p2, q2, rfl, rfl, rfl, h2, r2⟩ := trodAll_cons r1
  obtain ⟨rfl, rfl, rfl⟩ := trodAll_nil r2
  obtain rfl : args = #[v0, v1, v2] := by cases args; simp_all
  obtain ⟨rfl, rfl⟩ := trodVars_none hV
  obtain ⟨a0, len0, cap0, rfl⟩ := okWide_slice Try.underlying22 (hval 0 22 v0 rfl rfl)
  have k0 := h0
  have lt0 : ∀ x ∈ p0, x.block < W.heap.size := by obtain ⟨m, hm⟩ := k0; exact DataW.trod_lt m _ _ _ hm
  obtain ⟨z0, w0, r0_⟩ : ∃ zs, IsRow .u8 W a0 len0 cap0 zs ∧ cap0 + 1 ≤ Rows.uptoBulk d0 := by
    obtain ⟨fuel, hf⟩ := h0
    rcases open_ints Try.underlying22 Try.underlying5 (by kernel_rfl) hf with ⟨hcs, hxx⟩ | ⟨x, l, c, zs, hcs, _, hl, hm, hz, hxx, hcell, hwz⟩
    · simp [Value.cells] at hcs
      obtain ⟨rfl, rfl, rfl⟩ := hcs
      exact ⟨[], .inl ⟨rfl, rfl, rfl, rfl⟩, by rw [(Prod.mk.inj hxx).1]; simp [Rows.uptoBulk]⟩
    · simp [Value.cells] at hcs
      obtain ⟨rfl, rfl, rfl⟩ := hcs
      refine ⟨zs, .inr ⟨_, rfl, hl, hm, by simpa using hz, hcell, hwz⟩, ?_⟩
      have hzz : zs.length = cap0 := by simpa using hz
      rw [(Prod.mk.inj hxx).1]
      have hs3 := bulks.slice_le (lits (H := H) .u8 (zs.take len0)) (lits .u8 (zs.drop len0))
      simp only [lits, List.length_map, List.length_take, List.length_drop] at hs3
      simp only [lits]
      omega
  obtain ⟨a1, len1, cap1, rfl⟩ := okWide_slice Try.underlying23 (hval 1 23 v1 rfl rfl)
  have k1 := h1
  have lt1 : ∀ x ∈ p1, x.block < W.heap.size := by obtain ⟨m, hm⟩ := k1; exact DataW.trod_lt m _ _ _ hm
  obtain ⟨z1, w1, r1_⟩ : ∃ zs, IsRow .u64 W a1 len1 cap1 zs ∧ cap1 + 1 ≤ Rows.uptoBulk d1 := by
    obtain ⟨fuel, hf⟩ := h1
    rcases open_ints Try.underlying23 Try.underlying26 (by kernel_rfl) hf with ⟨hcs, hxx⟩ | ⟨x, l, c, zs, hcs, _, hl, hm, hz, hxx, hcell, hwz⟩
    · simp [Value.cells] at hcs
      obtain ⟨rfl, rfl, rfl⟩ := hcs
      exact ⟨[], .inl ⟨rfl, rfl, rfl, rfl⟩, by rw [(Prod.mk.inj hxx).1]; simp [Rows.uptoBulk]⟩
    · simp [Value.cells] at hcs
      obtain ⟨rfl, rfl, rfl⟩ := hcs
      refine ⟨zs, .inr ⟨_, rfl, hl, hm, by simpa using hz, hcell, hwz⟩, ?_⟩
      have hzz : zs.length = cap1 := by simpa using hz
      rw [(Prod.mk.inj hxx).1]
      have hs3 := bulks.slice_le (lits (H := H) .u64 (zs.take len1)) (lits .u64 (zs.drop len1))
      simp only [lits, List.length_map, List.length_take, List.length_drop] at hs3
      simp only [lits]
      omega
  obtain ⟨a2, len2, cap2, rfl⟩ := okWide_slice Try.underlying23 (hval 2 23 v2 rfl rfl)
  have k2 := h2
  have lt2 : ∀ x ∈ p2, x.block < W.heap.size := by obtain ⟨m, hm⟩ := k2; exact DataW.trod_lt m _ _ _ hm
  obtain ⟨z2, w2, r2_⟩ : ∃ zs, IsRow .u64 W a2 len2 cap2 zs ∧ cap2 + 1 ≤ Rows.uptoBulk d2 := by
    obtain ⟨fuel, hf⟩ := h2
    rcases open_ints Try.underlying23 Try.underlying26 (by kernel_rfl) hf with ⟨hcs, hxx⟩ | ⟨x, l, c, zs, hcs, _, hl, hm, hz, hxx, hcell, hwz⟩
    · simp [Value.cells] at hcs
      obtain ⟨rfl, rfl, rfl⟩ := hcs
      exact ⟨[], .inl ⟨rfl, rfl, rfl, rfl⟩, by rw [(Prod.mk.inj hxx).1]; simp [Rows.uptoBulk]⟩
    · simp [Value.cells] at hcs
      obtain ⟨rfl, rfl, rfl⟩ := hcs
      refine ⟨zs, .inr ⟨_, rfl, hl, hm, by simpa using hz, hcell, hwz⟩, ?_⟩
      have hzz : zs.length = cap2 := by simpa using hz
      rw [(Prod.mk.inj hxx).1]
      have hs3 := bulks.slice_le (lits (H := H) .u64 (zs.take len2)) (lits .u64 (zs.drop len2))
      simp only [lits, List.length_map, List.length_take, List.length_drop] at hs3
      simp only [lits]
      omega
  have hbulk : cap0 + cap1 + cap2 ≤ 1048576 := by
    have hk3 := of_decide_eq_true hk
    simp only [List.append_nil, Rows.uptoBulkAll] at hk3
    omega
  clear hA0 hval0
  refine (walk a0 len0 cap0 z0 a1 len1 cap1 z1 a2 len2 cap2 z2 W w0 w1 w2 hbulk).mono fun e W' ⟨he, bel⟩ => ?_
  subst he
  exact ⟨_, rfl, _, _, _, [], _, [], hW', trodAll_mk1 (shut_bool Try.underlying4 _), (trodAll_cons_mk (Below.trod laidOut (by kernel_rfl) (of_decide_eq_true (by kernel_rfl)) k0 bel lt0) (trodAll_cons_mk (Below.trod laidOut (by kernel_rfl) (of_decide_eq_true (by kernel_rfl)) k1 bel lt1) (trodAll_cons_mk (Below.trod laidOut (by kernel_rfl) (of_decide_eq_true (by kernel_rfl)) k2 bel lt2) trodAll_mk0))), rfl, bel.frame _, fun h => by cases h⟩

theorem over : Rows.octetPartsUptoRow.holds Try.pinned (Rows.OpenSpec.upto Rows.octetPartsSpec) :=
  OpenClaim.holds_of_cond 9 Try.f9 rfl rfl rfl rfl rfl rfl rfl ⟨rfl, rfl, rfl, rfl, rfl⟩ rfl rfl rfl rfl rfl (by kernel_rfl) Try.func9 (by kernel_rfl)
    (of_decide_eq_true (by kernel_rfl)) (by unfold Func.isWrapper; first | (rw [if_pos (by decide +kernel)]; kernel_rfl) | (rw [if_neg (by decide +kernel)]; exact ⟨rfl, rfl⟩))
    (fun os started H enc _ F => lifted os started H enc F)

theorem proved : Rows.OctetPartsUptoSaid := over
end Go.Proofs.Ytkcjeholgeneoaa.octetParts

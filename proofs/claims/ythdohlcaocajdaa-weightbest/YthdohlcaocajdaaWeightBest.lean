/-
  the best of some blocks has most, and of several that do the greatest root (WeightBest is true of every input).
-/
import Derived.Test.YthdohlcaocajdaaRows

import Derived.WalkKit

import Derived.Below

import Derived.ProofKit

import Derived.OpenShut

import Derived.ShutString

import Derived.ChangeOld

import Derived.Test.YthdohlcaocajdaaGBestL

namespace Go.Proofs.Ythdohlcaocajdaa.weightBest

open Go.ChangeShapes Go.WideShapes Go.ChangeAt Go.RowKit

set_option linter.unusedVariables false

theorem own : ownKnob Try.prog.godebug = none := by kernel_rfl
theorem laidOut : laidOutB Try.prog = true := by kernel_rfl
theorem cells4 : Try.prog.cellsOf 4 = 1 := by kernel_rfl
theorem cells5 : Try.prog.cellsOf 5 = 1 := by kernel_rfl
theorem cells22 : Try.prog.cellsOf 22 = 1 := by kernel_rfl
theorem cells25 : Try.prog.cellsOf 25 = 1 := by kernel_rfl
theorem cells37 : Try.prog.cellsOf 37 = 1 := by kernel_rfl

set_option maxRecDepth 100000 in
set_option maxHeartbeats 4000000 in
set_option maxRecDepth 100000 in
theorem walk (a0 : Option Addr) (len0 cap0 : Nat) (z0 : List Int) (a1 : Option Addr) (len1 cap1 : Nat) (z1 : List Int) (w : World) (w0 : IsRow .u64 w a0 len0 cap0 z0) (w1 : IsRow .u8 w a1 len1 cap1 z1) :
    Calls Try.prog 4 #[.slice a0 len0 cap0, .slice a1 len1 cap1] w fun e w' => e = .returned (.bool true) ∧ Below w.heap.size w w' := by
  have HR := hide w0.row
  have hu0 := hide w0.u64
  have HWS := hide w1.row
  have HWU := hide (fun z hz => wf_u8b (w1.wf z hz) : ∀ z ∈ z1.take len1, 0 ≤ z ∧ z ≤ 255)
  clear w0 w1
  generalize z0.take len0 = rs at *
  generalize z1.take len1 = ws at *
  have hml : len0 ≤ 9223372036854775807 := by have := HR.out.cap; unfold maxLen at this; omega
  have hrl := hide HR.out.len
  have hgood := bRun_good (fw ws) rs (fun r hr => ⟨(hu0.out r hr).1, fw_b ws r HWU.out⟩)
  obtain ⟨b, hb⟩ : ∃ b, Hid ((bRun (fw ws) rs).1 = b) := ⟨_, rfl⟩
  have hgd : Hid ((rs = [] ∧ b = 0) ∨ (b ∈ rs ∧ ∀ r ∈ rs, fw ws r ≤ fw ws b ∧ ¬ (fw ws r = fw ws b ∧ b < r))) := by
    unfold Hid
    rcases hgood with ⟨h1, h2⟩ | ⟨h1, h2, h3⟩
    · exact .inl ⟨h1, by rw [← hb.out, h2]⟩
    · rw [h2, hb.out] at h3
      exact .inr ⟨by rw [← hb.out]; exact h1, fun r hr => ⟨by have := (h3 r hr).1; omega, (h3 r hr).2⟩⟩
  have hbu : 0 ≤ b ∧ b ≤ 18446744073709551615 := by
    rcases hgd.out with ⟨_, h⟩ | ⟨h, _⟩
    · omega
    · exact hu0.out b h
  clear hgood
  have HV := hide (OAt.new w (.cells #[.slice a1 len1 cap1] 25))
  have HB := hide ((Below.refl w.heap.size w).alloc (Nat.le_refl _) (.cells #[.slice a1 len1 cap1] 25))
  go_enter Try.func4, Try.ntmps4
  go_wp2_with fail
  refine (awake_any _).mono ?_
  rintro e w1 ⟨rfl, hbel⟩
  replace HV := hide (HV.out.below hbel)
  replace HB := hide (HB.out.trans (hbel.mono HB.out.size))
  clear hbel
  have HF : Hid (∀ r : Int, 0 ≤ r ∧ r ≤ 18446744073709551615 → ∀ w', Below w1.heap.size w1 w' → _) := hide fun r hr w' h => fw_any ws w.heap.size a1 len1 cap1 r w' (HV.out.below h) (HWS.out.below (HB.out.trans (h.mono HB.out.size))) hr HWU.out
  have HBE := hide (best_l (fw ws) rs a0 len0 cap0 w.heap.size w1 (HR.out.below HB.out) (fun r w' hr h => HF.out r (hu0.out r hr) w' h))
  rw [hb.out] at HBE
  have hmf : ∀ (fn : Fn) (first cap : Array Value) (w : World), (Instr.makeFunc fn first cap).run Try.prog w = .ok (.func fn first cap) w := fun _ _ _ _ => rfl
  go_wp2_with fail
  refine HBE.out.mono ?_
  rintro e w2 ⟨rfl, hbel⟩
  have HB2 := hide hbel
  clear hbel HBE HV HWS HWU
  go_wp2
  go_loopw [8, 22] (fun u v wr => ∃ (k : Nat) (t : Bool), v = .int .i64 (k : Int) ∧ k ≤ len0 ∧ u = .bool t ∧ Hid ((t = true ↔ b ∈ rs.take k) ∧ Below w1.heap.size w1 wr)) (fun _ v _ => len0 - (intOf v).toNat)
  case atStart => exact ⟨0, false, rfl, Nat.zero_le _, rfl, hide ⟨by simp, HB2.out⟩⟩
  case round =>
    clear HB2
    obtain ⟨k, t, rfl, hk, rfl, hI⟩ := hrel
    obtain ⟨ht, hbl⟩ := hI.out
    have HT := hide ht
    have HL := hide hbl
    clear hI ht hbl
    by_cases hlt : k < len0
    · obtain ⟨q, off, rfl, hqs, hcn⟩ := (HR.out.below (HB.out.trans (HL.out.mono HB.out.size))).cell k hlt
      have hkl : (k : Int) < (len0 : Int) := by omega
      have hk2 : k < rs.length := by rw [hrl.out]; exact hlt
      have hin : rs.getD k 0 ∈ rs := by rw [List.getD_eq_getElem?_getD, List.getElem?_eq_getElem hk2]; exact List.getElem_mem _
      have htk := hide (List.take_succ_eq_append_getElem hk2)
      have hgk : rs[k] = rs.getD k 0 := by rw [List.getD_eq_getElem?_getD, List.getElem?_eq_getElem hk2]; rfl
      rw [hgk] at htk
      generalize rs.getD k 0 = r at hcn hin htk hgk
      have hru := hu0.out r hin
      have hno : fw ws r ≤ fw ws b ∧ ¬ (fw ws r = fw ws b ∧ b < r) := by
        rcases hgd.out with ⟨h, _⟩ | ⟨_, h⟩
        · rw [h] at hin; cases hin
        · exact h r hin
      have HR1 : Hid (∀ w', Below w1.heap.size w1 w' → _) := hide (HF.out r hru)
      have HR2 : Hid (∀ w', Below w1.heap.size w1 w' → _) := hide (HF.out b hbu)
      obtain ⟨fr, hfr⟩ : ∃ fr, Hid (fw ws r = fr) := ⟨_, rfl⟩
      obtain ⟨fb, hfb⟩ : ∃ fb, Hid (fw ws b = fb) := ⟨_, rfl⟩
      rw [hfr.out] at HR1 hno
      rw [hfb.out] at HR2 hno
      obtain ⟨hn1, hn2⟩ := hno
      have HT1 : Hid ((t || (r == b)) = true ↔ b ∈ rs.take (k + 1)) := by
        unfold Hid
        rw [htk.out, List.mem_append, Bool.or_eq_true, HT.out, beq_iff_eq, List.mem_singleton]
        exact ⟨fun h => h.elim .inl (fun e => .inr e.symm), fun h => h.elim .inl (fun e => .inr e.symm)⟩
      clear hin hgk hk2 htk HT hru
      have hlt1 : decide (fb < fr) = false := decide_eq_false (by omega)
      clear hn1
      cases t
      all_goals simp only [Bool.false_or, Bool.true_or] at HT1
      all_goals
        go_wp2_with fail
        refine (HR1.out wr HL.out).mono ?_
        rintro e y1 ⟨rfl, hb⟩
        replace HL := hide (HL.out.trans (hb.mono HL.out.size))
        clear hb
        go_wp2_with fail
        refine (HR2.out y1 HL.out).mono ?_
        rintro e y2 ⟨rfl, hb⟩
        replace HL := hide (HL.out.trans (hb.mono HL.out.size))
        clear hb
        go_wp2_with fail
        refine (HR1.out y2 HL.out).mono ?_
        rintro e y3 ⟨rfl, hb⟩
        replace HL := hide (HL.out.trans (hb.mono HL.out.size))
        clear hb
        go_wp2_with fail
        refine (HR2.out y3 HL.out).mono ?_
        rintro e y4 ⟨rfl, hb⟩
        replace HL := hide (HL.out.trans (hb.mono HL.out.size))
        clear hb
        by_cases heq : fr = fb
        · have hnb : ¬ b < r := fun h => hn2 ⟨heq, h⟩
          have he2 : (fr == fb) = true := by simpa using heq
          clear hn2 heq
          go_wp2
          go_roundw
          case rel => exact ⟨k + 1, _, by go_num, by omega, rfl, hide ⟨by simpa using HT1.out, HL.out⟩⟩
          case measure => simp [intOf]; omega
        · have he2 : (fr == fb) = false := by simpa using heq
          clear hn2 heq
          go_wp2
          go_roundw
          case rel => exact ⟨k + 1, _, by go_num, by omega, rfl, hide ⟨by simpa using HT1.out, HL.out⟩⟩
          case measure => simp [intOf]; omega
    · obtain rfl : k = len0 := by omega
      rw [List.take_of_length_le (by rw [hrl.out]; omega)] at HT
      have HZ := hide (HB.out.trans (HL.out.mono HB.out.size))
      clear HF HR HL
      by_cases h0 : k = 0
      · have e1 : rs = [] := List.eq_nil_of_length_eq_zero (by rw [hrl.out]; exact h0)
        have ht : t = false := by
          cases t with
          | false => rfl
          | true => have := HT.out.1 rfl; rw [e1] at this; cases this
        have hb0 : b = 0 := by
          rcases hgd.out with ⟨_, h⟩ | ⟨h, _⟩
          · exact h
          · rw [e1] at h; cases h
        subst ht
        subst hb0
        subst h0
        clear hgd HT
        go_wp2
        go_ret
        exact ⟨rfl, HZ.out⟩
      · have ht : t = true := HT.out.2 (by
          rcases hgd.out with ⟨h, _⟩ | ⟨h, _⟩
          · rw [h] at hrl; exact absurd hrl.out.symm h0
          · exact h)
        subst ht
        have hd0 : decide (0 < k) = true := decide_eq_true (by omega)
        clear hgd HT
        go_wp2
        go_ret
        exact ⟨rfl, HZ.out⟩

set_option maxRecDepth 100000 in
theorem lifted (os : Os) (started : os.Started) (H : Type) (enc : TypeId × Value → H) :
    ReturnsInHanded {} Try.checked os 4 .any (Rows.weightBestSpec.pre6 enc Try.prog Try.f4 Rows.weightBestRow.domain false) (Rows.weightBestSpec.post enc Try.prog Try.f4 false true false false) := by
  refine returnsInHanded_of_change (C := Try.checked) own started (by kernel_rfl) Try.func4
    (ChangeSpec.witness6 (enc := enc) (C := Try.checked) false ⟨#[], #[.slice none 0 0, .slice none 0 0], []⟩ 8 (by kernel_rfl) (by kernel_rfl) (by kernel_rfl) (by kernel_rfl)) ?_
  intro W base args ds gs before hval0 hW hcnd _
  have hval : ∀ (j : Nat) t v, Try.f4.params[j]? = some t → args[j]? = some v → Value.okWide Try.prog W .any base t v := hval0
  have hW' := hW
  obtain ⟨p, q, hA0, hV, rfl, hfz, hnd⟩ := hW
  have hA : DataW.TrodAll enc Try.prog W 0 (fun _ => true) true Try.f4.params.toList args.toList ds p := hA0
  rw [Try.params4] at hA hval
  obtain ⟨v0, vs0, d0, ds0, p0, q0, hargs, rfl, rfl, h0, r0⟩ := trodAll_cons hA
  obtain ⟨v1, vs1, d1, ds1, p1, q1, rfl, rfl, rfl, h1, r1⟩ := trodAll_cons r0
  obtain ⟨rfl, rfl, rfl⟩ := trodAll_nil r1
  obtain rfl : args = #[v0, v1] := by cases args; simp_all
  obtain ⟨rfl, rfl⟩ := trodVars_none hV
  obtain ⟨a0, len0, cap0, rfl⟩ := okWide_slice Try.underlying22 (hval 0 22 v0 rfl rfl)
  have k0 := h0
  have lt0 : ∀ x ∈ p0, x.block < W.heap.size := by obtain ⟨m, hm⟩ := k0; exact DataW.trod_lt m _ _ _ hm
  obtain ⟨z0, w0⟩ : ∃ zs, IsRow .u64 W a0 len0 cap0 zs := by
    obtain ⟨fuel, hf⟩ := h0
    rcases open_ints Try.underlying22 Try.underlying37 (by kernel_rfl) hf with ⟨hcs, _⟩ | ⟨x, l, c, zs, hcs, _, hl, hm, hz, _, hcell, hwz⟩
    · simp [Value.cells] at hcs
      obtain ⟨rfl, rfl, rfl⟩ := hcs
      exact ⟨[], .inl ⟨rfl, rfl, rfl, rfl⟩⟩
    · simp [Value.cells] at hcs
      obtain ⟨rfl, rfl, rfl⟩ := hcs
      exact ⟨zs, .inr ⟨_, rfl, hl, hm, by simpa using hz, hcell, hwz⟩⟩
  obtain ⟨a1, len1, cap1, rfl⟩ := okWide_slice Try.underlying25 (hval 1 25 v1 rfl rfl)
  have k1 := h1
  have lt1 : ∀ x ∈ p1, x.block < W.heap.size := by obtain ⟨m, hm⟩ := k1; exact DataW.trod_lt m _ _ _ hm
  obtain ⟨z1, w1⟩ : ∃ zs, IsRow .u8 W a1 len1 cap1 zs := by
    obtain ⟨fuel, hf⟩ := h1
    rcases open_ints Try.underlying25 Try.underlying5 (by kernel_rfl) hf with ⟨hcs, _⟩ | ⟨x, l, c, zs, hcs, _, hl, hm, hz, _, hcell, hwz⟩
    · simp [Value.cells] at hcs
      obtain ⟨rfl, rfl, rfl⟩ := hcs
      exact ⟨[], .inl ⟨rfl, rfl, rfl, rfl⟩⟩
    · simp [Value.cells] at hcs
      obtain ⟨rfl, rfl, rfl⟩ := hcs
      exact ⟨zs, .inr ⟨_, rfl, hl, hm, by simpa using hz, hcell, hwz⟩⟩
  clear hA0 hval0
  refine (walk a0 len0 cap0 z0 a1 len1 cap1 z1 W w0 w1).mono fun e W' ⟨he, bel⟩ => ?_
  subst he
  exact ⟨_, rfl, _, _, _, [], _, [], hW', trodAll_mk1 (shut_bool Try.underlying4 _), (trodAll_cons_mk (Below.trod laidOut (by kernel_rfl) (of_decide_eq_true (by kernel_rfl)) k0 bel lt0) (trodAll_cons_mk (Below.trod laidOut (by kernel_rfl) (of_decide_eq_true (by kernel_rfl)) k1 bel lt1) trodAll_mk0)), rfl, bel.frame _, fun h => by cases h⟩

theorem over : Rows.weightBestRow.holds Try.pinned (OpenSpec.ofChange Rows.weightBestSpec) :=
  OpenClaim.holds_of_wide 4 Try.f4 rfl rfl rfl rfl rfl rfl rfl ⟨rfl, rfl, rfl, rfl, rfl⟩ rfl rfl rfl rfl rfl (by kernel_rfl) Try.func4 (by kernel_rfl)
    (of_decide_eq_true (by kernel_rfl)) (by unfold Func.isWrapper; first | (rw [if_pos (by decide +kernel)]; kernel_rfl) | (rw [if_neg (by decide +kernel)]; exact ⟨rfl, rfl⟩))
    (fun os started H enc _ => lifted os started H enc)

theorem proved : Rows.WeightBestSaid := over
end Go.Proofs.Ythdohlcaocajdaa.weightBest

/- Contracts of ledger's with and end. -/
import Derived.Test.YtphahkjjmomjcaaLFun

namespace Go.Proofs.Ytphahkjjmomjcaa

open Go.ChangeShapes Go.WideShapes Go.ChangeAt Go.RowKit

set_option linter.unusedVariables false

/-- the walk halts here -/
def Stop (p : Prop) : Prop := p
theorem stopHere {p : Prop} (h : Stop p) : p := h
theorem infoB1 : (Try.prog.info? 4).map (·.size) = some 1 := by kernel_rfl
theorem splice_all {α : Type} (L cs : List α) (h : cs.length = L.length) : splice L 0 cs = cs := by
  unfold splice
  rw [Nat.zero_add, List.drop_of_length_le (by omega)]
  simp

set_option maxRecDepth 100000 in
set_option maxHeartbeats 2000000 in
theorem with_led (vs : List Bool) (who : List Int) (a : Option Addr) (n c : Nat) (s b : Int) (a1 : Option Addr) (c1 : Nat) (a2 : Option Addr) (m c2 : Nat) (w : World) (hV : RowB w a1 n c1 vs) (hW : RowIn .i64 w a2 m c2 who) (hn : 0 < n ∧ n ≤ 4096) (hr : ∀ x ∈ who, 0 ≤ x ∧ x < n) :
    Calls Try.prog 63 #[.agg #[.slice a n c, .int .i64 s, .int .i64 b], .slice a1 n c1, .slice a2 m c2] w fun e w' => ∃ g, e = .returned (.slice (some ⟨g, 0, none⟩) n n) ∧ RowB w' (some ⟨g, 0, none⟩) n n (mark vs who) ∧ w.heap.size ≤ g ∧ Below w.heap.size w w' := by
  have hvl := hV.len
  have hwl := hW.len
  have hwc := hW.cap
  unfold maxLen at hwc
  obtain ⟨bv, ov, rfl, hbv, hcv⟩ := hV.spot hn.1
  have HR := hide hr
  have HV := hide ((hV.alloc (cfg a n c s b)).alloc (bobj (List.replicate n false)))
  have HW := hide hW
  have HA := hide (OAt.new (w.alloc (cfg a n c s b)) (bobj (List.replicate n false)))
  have HB := hide ((((Below.refl w.heap.size w).alloc (Nat.le_refl _) (cfg a n c s b)).alloc (by simp)) (bobj (List.replicate n false)))
  clear hV hW hcv hr
  obtain ⟨i0, hi, hz0, hz1, hz2⟩ := info_parts infoB
  simp only [World.size_alloc] at HA
  generalize hW1 : (w.alloc (cfg a n c s b)).alloc (bobj (List.replicate n false)) = W1 at HV HA HB
  have hW2 : Hid ((w.alloc (.cells #[.slice a n c, .int .i64 s, .int .i64 b] 24)).alloc (.cells (madeCells #[Value.bool false] n) 4) = W1) := by
    rw [made_bools]; exact hW1
  have hgs : w.heap.size + 1 < W1.heap.size := by rw [← hW1]; simp
  clear hW1
  obtain ⟨cs, hcs⟩ : ∃ x, Hid (vs.map Value.bool = x) := ⟨_, rfl⟩
  have hcl : cs.length = n := by rw [← hcs.out, List.length_map, hvl]
  have hc1 : Hid (∀ v ∈ cs, v.oneCell' = true) := by rw [← hcs.out]; exact bools_one vs
  have hsrc : Hid (∀ j v, cs[j]? = some v → W1.cell? ((⟨bv, ov, none⟩ : Addr).add j) = some v) := by
    intro j v hv
    have hj : j < n := by have := (List.getElem?_eq_some_iff.1 hv).1; omega
    obtain ⟨b', o', e', _, hc⟩ := HV.out.cell j hj
    cases e'
    rw [Addr.add_lit, hc, ← hv, ← hcs.out]
    exact (getB vs hvl j hj).symm
  go_enter Try.func63, Try.ntmps63
  go_upto_region 2 with (at_make; refine wpList_make_row _ rfl _ _ 26 rfl 4 i0 (.bool false) Try.underlying26 hi hz0 hz1 rfl _ _ n rfl rfl ?b1 ?b2 ?_)
  case b1 => rw [hz2]; omega
  case b2 => omega
  rw [hW2.out]
  clear hW2
  go_wp2_with (refine wpList_copy_splice rfl (.tmp 17) (.tmp 18) 26 26 rfl 4 Try.underlying26 infoB1 _ _ n n n c1 rfl rfl (w.heap.size + 1) 0 ((List.replicate n false).map Value.bool) 4 HA.out.at_ cs (by rw [hcl]; exact (Nat.min_self n).symm) (fun _ => ⟨rfl, _, rfl, hsrc.out⟩) (by simp; omega) hc1.out (w.heap.size + 1) W1 (Below.refl _ _) (Nat.le_refl _) ?_)
  intro W2 HX hB2
  have hX2 : OAt W2 (w.heap.size + 1) (bobj vs) := OAt.of (by
    have h := HX.out
    rw [splice_all _ _ (by simp; omega), ← hcs.out] at h
    exact h)
  have HX2 := hide hX2
  have HN := hide (HB.out.trans (hB2.mono (by omega)))
  have hsz2 : w.heap.size + 1 < W2.heap.size := HX2.out.lt
  clear HX hB2 HA hsrc hc1 hcl hcs HV hX2
  go_wp2
  go_loopw [22] (fun i wr => ∃ k : Nat, k ≤ m ∧ i = .int .i64 k ∧ Hid (OAt wr (w.heap.size + 1) (bobj (mark vs (who.take k))) ∧ Apart (w.heap.size + 1) W2 wr)) (fun i _ => m - (intOf i).toNat)
  case atStart => exact ⟨0, Nat.zero_le _, rfl, hide ⟨HX2.out, Apart.refl _ _⟩⟩
  case round =>
    obtain ⟨k, hk, rfl, hI⟩ := hrel
    obtain ⟨ho, hap⟩ := hI.out
    have hnr := HN.out.trans (hap.old w.heap.size (by omega) (by omega))
    by_cases hlt : k < m
    · obtain ⟨g, off, rfl, hbs, hcn⟩ := (HW.out.below hnr).cell k hlt
      have hmk := mark_take vs who k (by omega)
      have hrk := HR.out (who.getD k 0) (by rw [List.getD_eq_getElem?_getD, List.getElem?_eq_getElem (show k < who.length by omega)]; exact List.getElem_mem _)
      obtain ⟨v, hv⟩ : ∃ x, Hid (who.getD k 0 = x) := ⟨_, rfl⟩
      rw [hv.out] at hcn hmk hrk
      obtain ⟨j, rfl⟩ : ∃ j : Nat, v = j := ⟨v.toNat, by omega⟩
      have hjn : j < n := by omega
      rw [Int.toNat_natCast] at hmk
      have hc := ho.cell j
      rw [List.getElem?_toArray, getB _ (by rw [mark_len]; exact hvl) j hjn] at hc
      have hf : wr.frozen? ⟨w.heap.size + 1, j, none⟩ = false := by unfold World.frozen?; rw [ho.at_]; simp
      have hX3 : OAt (wr.setCell ⟨w.heap.size + 1, j, none⟩ (.bool true)) (w.heap.size + 1) (bobj (mark vs (who.take (k + 1)))) := by
        have h := ho.set j (.bool true)
        rw [hmk]
        unfold bobj
        rw [List.map_set]
        simpa using h
      have HX3 := hide hX3
      have HA3 := hide (hap.set j (.bool true))
      clear hI ho hap hX3 hmk hnr
      go_wp2
      go_roundw
      case rel => exact ⟨k + 1, by omega, by go_num, hide ⟨HX3.out, HA3.out⟩⟩
      case measure => simp [intOf]; omega
    · have hkk : k = m := by omega
      subst hkk
      rw [List.take_of_length_le (by omega)] at ho
      have HO := hide (RowB.obj (n := n) ho (by rw [mark_len]; exact hvl) (by unfold maxLen; omega))
      have HNR := hide hnr
      clear hI ho hap hnr
      go_wp2
      go_ret
      exact ⟨_, rfl, HO.out, Nat.le_succ _, HNR.out⟩
end Go.Proofs.Ytphahkjjmomjcaa

/- Contract of wire's reader: a proof is read. -/
import Derived.Test.YtdigpjfgjlhhjaaWRdV

import Derived.Test.YtdigpjfgjlhhjaaWLay2

namespace Go.Proofs.Ytdigpjfgjlhhjaa

open Go.ChangeShapes Go.WideShapes Go.ChangeAt Go.RowKit

set_option linter.unusedVariables false

def rProof (bs : List Int) (s : St) : Pf × St := (⟨(rVote bs s).1, (rVote bs (rVote bs s).2).1⟩, (rVote bs (rVote bs s).2).2)

set_option maxHeartbeats 2000000 in
theorem rdProof_any (r : Nat) (ab : Option Addr) (n c : Nat) (bs : List Int) (s : St) (w : World) (h : Rd r w ab n c bs s) :
    Calls Try.prog 28 #[.pointer (some ⟨r, 0, none⟩)] w fun e w' => ∃ cs, e = .returned (.agg cs.toArray) ∧ ProofC (filt tyI w.heap.size w') cs (rProof bs s).1 ∧ Rd r w' ab n c bs (rProof bs s).2 ∧ Apart r w w' := by
  obtain ⟨x1, e1⟩ : ∃ x, Hid (rVote bs s = x) := ⟨_, rfl⟩
  obtain ⟨x2, e2⟩ : ∃ x, Hid (rVote bs x1.2 = x) := ⟨_, rfl⟩
  have HV : Hid (rProof bs s = (⟨x1.1, x2.1⟩, x2.2)) := show _ = _ by rw [← e2.out, ← e1.out]; rfl
  have H := hide h
  have hrlt := h.lt
  have hrne : w.heap.size ≠ r := by omega
  clear h
  go_enter Try.func28, Try.ntmps28
  go_wp2_with fail
  refine (rdVote_any r ab n c bs s _ (H.out.alloc _)).mono ?_
  rintro e w1 ⟨cs1, rfl, hv1, hr1, hA1⟩
  rw [e1.out] at hr1 hv1
  obtain ⟨a4, l4, c4, rfl, hv1⟩ := hv1.out
  have O1 := hide ((hA1.block w.heap.size (by simp) hrne).trans (heap_alloc_new _ _))
  have hA1' := ((Apart.refl r w).alloc _).trans hA1
  have hsz1 := hA1.size
  simp at hsz1
  have R1 := hide hr1
  have A1 := hide hA1'
  have V1 := hide (hv1.ext (filt_mono (q := tyI) (B := w.heap.size + 1) w1 (by simp) (fun t h => h)))
  clear hr1 hA1 hA1' hv1
  go_wp2_with fail
  refine (rdVote_any r ab n c bs x1.2 _ R1.out).mono ?_
  rintro e w2 ⟨cs2, rfl, hv2, hr2, hA2⟩
  rw [e2.out] at hr2 hv2
  obtain ⟨a5, l5, c5, rfl, hv2⟩ := hv2.out
  have hx2 := (hA2.block w.heap.size (by omega) hrne).trans O1.out
  have V2 := hide (V1.out.ext (filt_apart hA2 (by omega)))
  have V2' := hide (hv2.ext (filt_mono (q := tyI) (B := w.heap.size + 1) w2 (by omega) (fun t h => h)))
  obtain ⟨w3, hrun, hx3, hA3⟩ := store_obj (P := Try.prog) (cs := vtCs x1.1 a4 l4 c4 ++ vtCs x2.1 a5 l5 c5) infoPf rfl rfl (by simp [Value.oneCell']) hx2
  have RUN := hide hrun
  have hb3 : Below w.heap.size w2 w3 := hA3.old _ (by have := hA2.size; omega) (Nat.le_refl _)
  have A3 : Hid (Apart r w w3) := (A1.out.trans hA2).keep hb3
  have R3 := hide (hr2.keep H.out hb3)
  have E3 := filt_apart (p := tyI) (B := w.heap.size + 1) hA3 (by omega)
  have M3 := filt_mono (p := tyI) (q := tyI) (B := w.heap.size) (B' := w.heap.size + 1) w3 (by omega) (fun t h => h)
  have V3 := hide ((V2.out.ext E3).ext M3)
  have V3' := hide ((V2'.out.ext E3).ext M3)
  have X3 := hide hx3
  clear hrun hA3 hx2 hx3 hr2 hA2 R1 A1 O1 hb3 hv2 V1 V2 V2' E3 M3
  go_wp2_with (refine wpList_store_at 36 (.tmp 2) (.tmp 7) rfl rfl (.pointer (some ⟨w.heap.size, 0, none⟩)) (.agg _) rfl rfl _ RUN.out ?_)
  refine ret_struct rfl rfl X3.out Try.underlying36 infoPf rfl ⟨_, rfl, ?_, ?_, A3.out⟩
  · rw [HV.out]
    exact ⟨_, _, rfl, V3.out, V3'.out⟩
  · rw [HV.out]
    exact R3.out
end Go.Proofs.Ytdigpjfgjlhhjaa

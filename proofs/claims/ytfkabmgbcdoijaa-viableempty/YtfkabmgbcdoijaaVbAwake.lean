/- The document's examples of layer 13 ('awake'). -/
import Derived.Test.YtfkabmgbcdoijaaVbMore

namespace Go.Proofs.Ytfkabmgbcdoijaa

open Go.ChangeShapes Go.WideShapes Go.ChangeAt Go.RowKit Go.Maps

set_option linter.unusedVariables false

def src2 (r : Int) : Option Nat := if r = 2 then some 3 else none
theorem ex1_len : ex1.length = 2 := rfl
theorem ex1_a (t : Nat) (ht : t < ex1.length) (_ : lf ex1 t = true) : okV ex1 0 1 0 (fun _ => none) (tb ex1 t).root = true := okV_first ex1_ok 0 _ t ht
theorem ex1_b (t : Nat) (ht : t < ex1.length) (hl : lf ex1 t = true) : okV ex1 5 1 9 src2 (tb ex1 t).root = false := by
  rw [ex1_len] at ht
  have : t = 0 ∨ t = 1 := by omega
  rcases this with rfl | rfl
  · exact absurd hl (by decide)
  · rfl
theorem ex1_r : ldR ex1 (okV ex1 0 1 0 (fun _ => none)) 1 = true ∧ ldR ex1 (okV ex1 0 1 0 (fun _ => none)) 2 = true :=
  ⟨(ldR_of ex1_ok _ (q := 0) (by decide)).trans (ldB_true ex1_ok ex1_a 2 0 (by decide) (by decide)), (ldR_of ex1_ok _ (q := 1) (by decide)).trans (ldB_true ex1_ok ex1_a 2 1 (by decide) (by decide))⟩
set_option maxRecDepth 100000 in
set_option maxHeartbeats 4000000 in
theorem vawake_any (w : World) : Calls Try.prog 9 #[] w fun e w' => e = .returned (.bool true) ∧ Below w.heap.size w w' := by
  have hmm := @run_makeMap Try.prog
  go_enter Try.func9, Try.ntmps9
  go_wp2_with fail
  refine (of_any 1 0 w (u_lit (by simp))).mono ?_
  rintro e w1 ⟨p, rfl, hT, hB⟩
  have HB := hide hB
  have HT := hide hT
  clear hT hB
  go_wp2_with fail
  refine (add_one w.heap.size p (tOne 1 0) 2 1 3 w1 HB.out.size HT.out (tOne_ok (u_lit (by simp)) (i_lit (by simp))) (u_lit (by simp)) (u_lit (by simp)) (i_lit (by simp))).mono ?_
  rintro e w2 ⟨rfl, bs, hn, hT, hB⟩
  rw [show addE (tOne 1 0) 2 1 3 = 0 from by decide]
  obtain rfl := ex_next1 hn
  replace HT := hide hT
  replace HB := hide (HB.out.trans hB)
  clear hn hT hB
  rw [show errV 0 = .nilIface from rfl]
  go_upto_region 5 with fail
  have HP := hide (OAt.new w2 (.cells #[.int .i64 0, .int .u64 1] 31))
  have HV1 := hide (via_any ex1 _ p 0 1 0 1 0 (.map none) (fun _ => none) (w2.alloc (.cells #[.int .i64 0, .int .u64 1] 31)) (HT.out.alloc _) ex1_ok (u_lit (by simp)) (i_lit (by simp)) (.inl ⟨rfl, fun _ => rfl⟩) (fun _ => Nat.zero_le _))
  replace HT := hide (HT.out.alloc (.cells #[.int .i64 0, .int .u64 1] 31))
  replace HB := hide (HB.out.alloc HB.out.size (.cells #[.int .i64 0, .int .u64 1] 31))
  generalize w2.alloc (.cells #[.int .i64 0, .int .u64 1] 31) = w3 at HT HB HP HV1 ⊢
  generalize w2.heap.size = gp at HP ⊢
  have p0 := HP.out.cell 0
  have p1 := HP.out.cell 1
  simp only [List.getElem?_toArray, List.getElem?_cons_zero, List.getElem?_cons_succ] at p0 p1
  go_wp2_with fail
  refine HV1.out.mono ?_
  rintro e w4 ⟨am, rfl, hM, ham, hb⟩
  have HM := hide hM
  replace HT := hide (HT.out.below hb)
  replace HP := hide (HP.out.below hb)
  replace HB := hide (HB.out.trans (hb.mono HB.out.size))
  clear hM ham hb p0 p1 HV1
  have p0 := HP.out.cell 0
  have p1 := HP.out.cell 1
  simp only [List.getElem?_toArray, List.getElem?_cons_zero, List.getElem?_cons_succ] at p0 p1
  have hb0 := below_alloc w4 (.map #[] 0)
  obtain ⟨w5, hrun, hS, hgr⟩ := (MapP.new w4).put 2 3 (by omega) (by omega) (by unfold maxLen; omega)
  rw [show ((3 : Nat) : Int) = 3 from rfl] at hrun
  have hb5 : Below w4.heap.size w4 w5 := hb0.grown hgr hb0.size (fun j hj => by cases hj; exact Nat.le_refl _)
  have p0' : (w4.alloc (.map #[] 0)).cell? ⟨gp, 0, none⟩ = some (.int .i64 0) := (HP.out.alloc _).cell 0
  have p1' : (w4.alloc (.map #[] 0)).cell? ⟨gp, 1, none⟩ = some (.int .u64 1) := (HP.out.alloc _).cell 1
  have HV2 := hide (via_any ex1 _ p 5 1 0 1 9 (.map (some w4.heap.size)) src2 w5 (HT.out.below hb5) ex1_ok (u_lit (by simp)) (i_lit (by simp)) (.inr ⟨_, _, rfl, hS.congr (fun r => by unfold src2; rfl)⟩) (fun r => by unfold src2; split <;> simp))
  have HM5 := hide (HM.out.below hb5)
  have HB5 := hide (HB.out.trans (hb5.mono HB.out.size))
  clear hS hgr hb0 hb5 HM HB HP HT
  go_upto_region 7 with (go_at_call 12; refine HV2.out.mono ?_; rintro e w6 ⟨bm, rfl, hM, hbm, hb⟩; have HM6 := hide hM; have HB6 := hide (HB5.out.trans (hb.mono HB5.out.size)); have HA6 := hide (HM5.out.below hb); clear hM hb hbm)
  have c1 := fun ty => HA6.out.count ex1_ok ty
  have c2 := fun ty => HM6.out.count ex1_ok ty
  rw [mayL_all ex1_ok ex1_a _ (Nat.le_refl _)] at c1
  rw [mayL_none ex1_b] at c2
  have k1 := HA6.out.look 1 (by omega)
  have k2 := HA6.out.look 2 (by omega)
  rw [ex1_r.1] at k1
  rw [ex1_r.2] at k2
  have hl2 : ((ex1.length : Nat) : Int) = 2 := rfl
  simp only [hl2] at c1
  clear HA6 HM6 HM5 HB5 HV2 hl2 p0 p1 p0' p1' hrun
  go_wp2
  go_ret
  exact ⟨rfl, HB6.out⟩
end Go.Proofs.Ytfkabmgbcdoijaa

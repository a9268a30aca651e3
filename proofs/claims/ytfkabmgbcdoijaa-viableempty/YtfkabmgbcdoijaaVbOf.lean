/- Contract of viable.Of. -/
import Derived.Test.YtfkabmgbcdoijaaVbMay

import Derived.Laws.EntriesVeiled

namespace Go.Proofs.Ytfkabmgbcdoijaa

open Go.ChangeShapes Go.WideShapes Go.ChangeAt Go.RowKit Go.Maps

set_option linter.unusedVariables false

/-- what viable.Of hands back -/
def Vias (w : World) (bs : List TBlk) (ok : Int → Bool) (e : Ending) (w' : World) : Prop :=
  ∃ am, e = .returned (.map (some am)) ∧ MapB w' am bs.length (ldR bs ok) ∧ w.heap.size ≤ am ∧ Below w.heap.size w w'
/-- the world in which the closure is called first -/
abbrev vW (w : World) (p : Nat) (je jr fe fr ep : Int) (sv : Value) : World :=
  ((((w.alloc (.cells #[.pointer (some ⟨p, 0, none⟩)] 24)).alloc (vwO je jr fe fr ep sv)).alloc (.map #[] 0)).alloc (.cells #[.map (some (w.heap.size + 1 + 1))] 36)).alloc
    (.cells #[.func (.func 17) #[] #[.pointer (some ⟨w.heap.size, 0, none⟩), .pointer (some ⟨w.heap.size + 1, 0, none⟩), .pointer (some ⟨w.heap.size + 1 + 1 + 1 + 1, 0, none⟩), .pointer (some ⟨w.heap.size + 1 + 1 + 1, 0, none⟩)]] 52)
theorem vk_new {F : Nat → Prop} {p : Nat} {bs : List TBlk} (w : World) (je jr fe fr ep : Int) (sv : Value) (f : Int → Option Nat) (hT : TAt w F p bs) (hS : SrcAt w sv f) :
    VK (vW w p je jr fe fr ep sv) w.heap.size (w.heap.size + 1) (w.heap.size + 1 + 1 + 1 + 1) (w.heap.size + 1 + 1 + 1) (w.heap.size + 1 + 1) p (fun k => F k ∧ k < w.heap.size) bs je jr fe fr ep sv f
    ∧ MapB (vW w p je jr fe fr ep sv) (w.heap.size + 1 + 1) 0 (fun _ => false) ∧ Below w.heap.size w (vW w p je jr fe fr ep sv) := by
  have hb : Below w.heap.size w (vW w p je jr fe fr ep sv) := (((((Below.refl w.heap.size w).alloc (Nat.le_refl _) _).alloc (by simp) _).alloc (by simp; omega) _).alloc (by simp; omega) _).alloc (by simp; omega) _
  have n1 := OAt.new w (.cells #[.pointer (some ⟨p, 0, none⟩)] 24)
  have n2 := OAt.new (w.alloc (.cells #[.pointer (some ⟨p, 0, none⟩)] 24)) (vwO je jr fe fr ep sv)
  have n3 := MapB.new ((w.alloc (.cells #[.pointer (some ⟨p, 0, none⟩)] 24)).alloc (vwO je jr fe fr ep sv))
  have n4 := OAt.new (((w.alloc (.cells #[.pointer (some ⟨p, 0, none⟩)] 24)).alloc (vwO je jr fe fr ep sv)).alloc (.map #[] 0)) (.cells #[.map (some (w.heap.size + 1 + 1))] 36)
  have n5 := OAt.new ((((w.alloc (.cells #[.pointer (some ⟨p, 0, none⟩)] 24)).alloc (vwO je jr fe fr ep sv)).alloc (.map #[] 0)).alloc (.cells #[.map (some (w.heap.size + 1 + 1))] 36))
    (.cells #[.func (.func 17) #[] #[.pointer (some ⟨w.heap.size, 0, none⟩), .pointer (some ⟨w.heap.size + 1, 0, none⟩), .pointer (some ⟨w.heap.size + 1 + 1 + 1 + 1, 0, none⟩), .pointer (some ⟨w.heap.size + 1 + 1 + 1, 0, none⟩)]] 52)
  simp only [World.size_alloc] at n2 n3 n4 n5
  refine ⟨⟨(((n1.alloc _).alloc _).alloc _).alloc _, ((n2.alloc _).alloc _).alloc _, n5, n4.alloc _, hT.tight.below hb, hS.below hb, ⟨fun h => by omega, by omega, by omega, by omega, by omega⟩, fun b e => ?_⟩, ?_, hb⟩
  · rcases hS with ⟨h, _⟩ | ⟨b2, n, h, hm⟩
    · rw [h] at e; cases e
    · rw [h] at e; cases e
      have := hm.lt
      omega
  · exact (n3.below (below_alloc _ _)).below (below_alloc _ _)
set_option maxRecDepth 100000 in
set_option maxHeartbeats 4000000 in
theorem via_any (bs : List TBlk) (F : Nat → Prop) (p : Nat) (je jr fe fr ep : Int) (sv : Value) (f : Int → Option Nat) (w : World) (hT : TAt w F p bs) (hO : TOk bs) (hfr : U64 fr) (hep : I64 ep) (hS : SrcAt w sv f) (hf : ∀ r, (f r).getD 0 ≤ 4294967296) :
    Calls Try.prog 12 #[.pointer (some ⟨p, 0, none⟩), .agg (vwC je jr fe fr ep sv)] w (Vias w bs (okV bs je fr ep f)) := by
  have hmm := @run_makeMap Try.prog
  have hmf : ∀ (fn : Fn) (first cap : Array Value) (w : World), (Instr.makeFunc fn first cap).run Try.prog w = .ok (.func fn first cap) w := fun _ _ _ _ => rfl
  obtain ⟨hV, hM, hb⟩ := vk_new w je jr fe fr ep sv f hT hS
  have HV := hide hV
  have HM := hide hM
  have HB := hide hb
  have HS := hide hf
  have HO := hide hO
  clear hV hM hb hT hS hf hO
  go_enter Try.func12, Try.ntmps12
  go_upto_region 4 with fail
  unfold vW at HV HM HB
  generalize ((((w.alloc (.cells #[.pointer (some ⟨p, 0, none⟩)] 24)).alloc (vwO je jr fe fr ep sv)).alloc (.map #[] 0)).alloc (.cells #[.map (some (w.heap.size + 1 + 1))] 36)).alloc
    (.cells #[.func (.func 17) #[] #[.pointer (some ⟨w.heap.size, 0, none⟩), .pointer (some ⟨w.heap.size + 1, 0, none⟩), .pointer (some ⟨w.heap.size + 1 + 1 + 1 + 1, 0, none⟩), .pointer (some ⟨w.heap.size + 1 + 1 + 1, 0, none⟩)]] 52) = W at HV HM HB ⊢
  obtain ⟨am, ham⟩ : ∃ x, Hid (w.heap.size + 1 + 1 = x) := ⟨_, rfl⟩
  obtain ⟨bv, hbv⟩ : ∃ x, Hid (w.heap.size + 1 = x) := ⟨_, rfl⟩
  obtain ⟨ba, hba⟩ : ∃ x, Hid (w.heap.size + 1 + 1 + 1 = x) := ⟨_, rfl⟩
  obtain ⟨bm, hbm⟩ : ∃ x, Hid (w.heap.size + 1 + 1 + 1 + 1 = x) := ⟨_, rfl⟩
  rw [hbm.out] at HV ⊢
  rw [hba.out] at HV ⊢
  rw [ham.out] at HV HM ⊢
  rw [hbv.out] at HV ⊢
  have HC := hide (fun w' (h : Below W.heap.size W w') => may_any HO.out hfr hep HS.out _ _ _ _ _ _ _ sv je jr fe bs.length 0 (fun _ => false) w' (by omega) HO.out.pos (HV.out.below h) ((HM.out.below h).mono (Nat.zero_le _)) (fun x h => by cases h))
  have HF := hide (fun w' (h : Below W.heap.size W w') => first_any _ p bs w' (HV.out.below h).tree HO.out)
  have HU := hide (under_first HO.out (okV bs je fr ep f))
  unfold Led at HC
  obtain ⟨r0, hr0⟩ : ∃ x, Hid ((tb bs 0).root = x) := ⟨_, rfl⟩
  rw [hr0.out] at HC HF HU
  obtain ⟨b0, hb0⟩ : ∃ x, Hid (ldB bs (okV bs je fr ep f) 0 = x) := ⟨_, rfl⟩
  rw [hb0.out] at HC
  have HCE := hide (fun w' (h : Below W.heap.size W w') => (HV.out.below h).cells)
  refine startG (fun w' => Below W.heap.size W w') 3 (by kernel_rfl) (Below.refl _ _).drew ?_
  refine takeG (i := 0) (v := .func (.func 17) #[] #[.pointer (some ⟨w.heap.size, 0, none⟩), .pointer (some ⟨bv, 0, none⟩), .pointer (some ⟨bm, 0, none⟩), .pointer (some ⟨ba, 0, none⟩)]) rfl rfl (by kernel_rfl) (by kernel_rfl) (by kernel_rfl) (by kernel_rfl) (fun _ _ _ h => h) (Or.inl ⟨by kernel_rfl, fun w' hSw => Or.inl ⟨w', ?_, hSw⟩⟩) ?_
  · have hl := (HCE.out w' hSw).2.2.2.2.2.2.2.1; go_simp
  simp only [List.set_cons_succ, List.set_cons_zero]
  refine takeG (i := 1) (v := .pointer (some ⟨p, 0, none⟩)) rfl rfl (by kernel_rfl) (by kernel_rfl) (by kernel_rfl) (by kernel_rfl) (fun _ _ _ h => h) (Or.inl ⟨by kernel_rfl, fun w' hSw => Or.inl ⟨w', ?_, hSw⟩⟩) ?_
  · have hl := (HCE.out w' hSw).1; go_simp
  simp only [List.set_cons_succ, List.set_cons_zero]
  refine takeG (i := 2) (v := .int .u64 r0) rfl rfl (by kernel_rfl) (by kernel_rfl) (by kernel_rfl) (by kernel_rfl) (fun _ _ _ h => h) (Or.inl ⟨by kernel_rfl, fun w' hSw => doesOf rfl (by kernel_rfl) fun K hK => ?_⟩) ?_
  · go_simp
    refine (HF.out _ hSw).mono ?_
    rintro e w2 ⟨rfl, hw⟩
    exact hK.out _ (by rw [hw]; exact hSw)
  simp only [List.set_cons_succ, List.set_cons_zero]
  refine lastG (oz := _) (by kernel_rfl) rfl (by kernel_rfl) fun w' hSw K hK => ?_
  go_simp
  refine (HC.out _ hSw).mono ?_
  rintro e w2 ⟨rfl, hm, ht⟩
  have HV2 := hide ((HV.out.below hSw).turn ht)
  have HE : Hid (Vias w bs (okV bs je fr ep f) (.returned (.map (some am))) w2) := hide ⟨am, rfl, hm.congr (fun x => by rw [Bool.false_or, HU.out]), by have := ham.out; omega, ((Turn.of (F := fun i => i = am) (HB.out.trans (Below.mono hSw HB.out.size))).trans ht (fun i hi => .inl hi)).below (Nat.le_refl _) (fun i hi => by have := ham.out; omega)⟩
  obtain ⟨_, _, _, _, _, _, _, _, ca2⟩ := HV2.out.cells
  refine hK.out _ _ ?_
  clear hK K HC HF HCE HV HM HB HU hm ht hSw
  go_wp2
  go_ret
  exact HE.out
end Go.Proofs.Ytfkabmgbcdoijaa

/- Contracts of Kids; of stars of blocks: plain facts. -/
import Derived.Test.YtfkabmgbcdoijaaTAwake

import Derived.Test.YtfkabmgbcdoijaaTClone

namespace Go.Proofs.Ytfkabmgbcdoijaa

open Go.ChangeShapes Go.WideShapes Go.ChangeAt Go.RowKit

set_option linter.unusedVariables false

/-- what Kids hands back -/
def KidsOf (w : World) (ks : List Int) (e : Ending) (w' : World) : Prop := ∃ v, e = .returned v ∧ w'.ownsRow w.heap.size 29 1 v ks.length (ks.map (Value.int .u64)) ∧ Below w.heap.size w w'
theorem kids_any (F : Nat → Prop) (p : Nat) (bs : List TBlk) (r : Int) (i : Nat) (w : World) (hT : TAt w F p bs) (hO : TOk bs) (hr : U64 r) (hx : idx bs r = some i) :
    Calls Try.prog 14 #[.pointer (some ⟨p, 0, none⟩), .int .u64 r] w (KidsOf w (tb bs i).kids) := by
  obtain ⟨mb, bv, ks, hP, hB, hM, hFp, hFm, hFb⟩ := hT
  obtain ⟨ao, c, rfl, hc, hcm, hcell⟩ := hB.cells
  obtain ⟨hi, hir⟩ := idx_some hx
  obtain ⟨g, rfl, hgw, hco⟩ := hcell i hi
  clear hcell
  have hkid := hB.kid i hi
  have hkl := hO.kids i hi
  rw [← tb_lt hi] at hkid hco
  have hlook := hM.look r hr
  rw [hx] at hlook
  simp only [Option.isSome_some, Option.getD_some] at hlook
  have c0 := hP.cell 0
  have c1 := hP.cell 1
  simp only [List.getElem?_toArray, List.getElem?_cons_zero, List.getElem?_cons_succ] at c0 c1
  have k4 := hco 4 (by omega)
  simp only [tcells, List.getElem?_cons_zero, List.getElem?_cons_succ] at k4
  generalize ks.getD i (.slice none 0 0) = kv at hkid k4
  have hclone : Calls Try.prog 22 #[kv] w (KidsOf w (tb bs i).kids) := by
    exact clone64_any _ _ _ hkid (by have := hO.lim; omega)
  have hform : ∃ ka kn kc, kv = .slice ka kn kc := by
    rcases hkid.2 with ⟨rfl, h0⟩ | ⟨b, cap, cur, rfl, _⟩
    · exact ⟨_, _, _, rfl⟩
    · exact ⟨_, _, _, rfl⟩
  obtain ⟨ka, kn, kc, rfl⟩ := hform
  have hoi : (i : Int) < (bs.length : Int) := by omega
  have hlim := hO.lim
  have HCL := hide hclone
  generalize bs.length = n at c0 hoi hi
  clear hP hB hM hFp hFm hFb hkid hkl hco hx hir hclone hlim hO hc hcm
  go_enter Try.func14, Try.ntmps14
  go_wp2_with fail
  refine HCL.out.mono ?_
  rintro e w' ⟨v, rfl, ho, hb⟩
  have HK := hide (show KidsOf w (tb bs i).kids (.returned v) w' from ⟨v, rfl, ho, hb⟩)
  clear ho hb HCL
  go_wp2
  go_ret
  exact HK.out

/-- a star of i blocks: all on the first one -/
structure IsStar (bs : List TBlk) (i : Nat) : Prop where
  ok : TOk bs
  len : bs.length = i
  kid : (tb bs 0).kids.length + 1 = i
  slot : (tb bs 0).slot = 0
  root : ∀ j, j < i → (tb bs j).root = (j : Int) + 1
theorem IsStar.one : IsStar (tOne 1 0) 1 := ⟨tOne_ok (u_lit (by simp)) (i_lit (by simp)), rfl, rfl, rfl, fun j hj => by
  have : j = 0 := by omega
  subst this
  rfl⟩
theorem IsStar.idx {bs : List TBlk} {i j : Nat} (h : IsStar bs i) (hj : j < i) : idx bs ((j : Int) + 1) = some j := by
  have := idx_of h.ok (i := j) (by rw [h.len]; exact hj)
  rwa [h.root j hj] at this
theorem IsStar.new {bs : List TBlk} {i : Nat} (h : IsStar bs i) {x : Int} (hx : (i : Int) < x) : Go.Proofs.Ytfkabmgbcdoijaa.idx bs x = none := by
  cases hy : Go.Proofs.Ytfkabmgbcdoijaa.idx bs x with
  | none => rfl
  | some j =>
    obtain ⟨h1, h2⟩ := idx_some hy
    rw [h.len] at h1
    rw [h.root j h1] at h2
    omega
theorem IsStar.next {bs bs' : List TBlk} {i : Nat} {x : Nat} (h : IsStar bs i) (hi : 1 ≤ i) (hx : i < x) (hx2 : x ≤ 2000) (hn : Next bs (x : Int) 1 (1 + (x : Int)) bs') :
    (i < 1024 → x = i + 1 → addE bs (x : Int) 1 (1 + (x : Int)) = 0 ∧ IsStar bs' (i + 1)) ∧ (1024 ≤ i → addE bs (x : Int) 1 (1 + (x : Int)) = 12 ∧ IsStar bs' i) := by
  have e1 := h.new (x := (x : Int)) (by omega)
  have e2 := h.idx (j := 0) (by omega)
  rw [show ((0 : Nat) : Int) + 1 = 1 from rfl] at e2
  have hE : addE bs (x : Int) 1 (1 + (x : Int)) = if 1024 ≤ i then 12 else 0 := by
    unfold addE
    rw [e1, e2]
    simp only
    rw [if_neg (by rw [h.slot]; omega), h.len]
  have hok := hn.ok h.ok (by unfold U64; omega) (by unfold I64; omega)
  refine ⟨fun hi2 hxi => ?_, fun hi2 => ?_⟩
  · rw [if_neg (by omega)] at hE
    refine ⟨hE, ?_⟩
    rcases hn with ⟨h0, _⟩ | ⟨_, o, k, h1, h2, h3, h4, h5, h6, rfl⟩
    · exact absurd hE h0
    · rw [e2] at h1
      obtain rfl := Option.some.inj h1
      have hz := root_lay bs (x : Int) 0 (1 + (x : Int)) k
      refine ⟨hok, by rw [layB_len, h.len], ?_, ?_, fun j hj => ?_⟩
      · rw [tb_lay, if_pos h.ok.pos, if_pos rfl]
        show (ins (tb bs 0).kids k x).length + 1 = i + 1
        rw [ins_len _ _ _ h5]
        have := h.kid
        omega
      · rw [(hz 0 h.ok.pos).2.2.1]; exact h.slot
      · by_cases hji : j < i
        · rw [(hz j (by rw [h.len]; exact hji)).1]; exact h.root j hji
        · have : j = i := by omega
          subst this
          rw [tb_lay, h.len, if_neg (by omega), if_pos rfl]
          show (x : Int) = _
          omega
  · rw [if_pos hi2] at hE
    refine ⟨hE, ?_⟩
    rcases hn with ⟨_, rfl⟩ | ⟨h0, _⟩
    · exact h
    · rw [hE] at h0; cases h0
theorem star_step {bs bs' : List TBlk} {m i : Nat} (hS : IsStar bs (min (i - 1) 1024)) (h2 : 2 ≤ i) (him : i ≤ 1024 + m) (hm : m ≤ 255) (hN : Next bs (i : Int) 1 (1 + (i : Int)) bs') :
    addE bs (i : Int) 1 (1 + (i : Int)) = (if i ≤ 1024 then 0 else 12) ∧ IsStar bs' (min (i + 1 - 1) 1024) := by
  have hn := hS.next (x := i) (by omega) (by omega) (by omega) hN
  by_cases h : i ≤ 1024
  · obtain ⟨h1, h3⟩ := hn.1 (by omega) (by omega)
    rw [if_pos h]
    refine ⟨h1, ?_⟩
    rw [show min (i + 1 - 1) 1024 = min (i - 1) 1024 + 1 by omega]
    exact h3
  · obtain ⟨h1, h3⟩ := hn.2 (by omega)
    rw [if_neg h]
    refine ⟨h1, ?_⟩
    rw [show min (i + 1 - 1) 1024 = min (i - 1) 1024 by omega]
    exact h3
/-- a loop's measure goes down -/
theorem full_less (N i : Nat) (hw : wrap64 ((i : Int) + 1) = (i : Int) + 1) (h : i < N) : N - (intOf (.int .i64 (wrap64 ((i : Int) + 1)))).toNat < N - (intOf (.int .i64 (i : Int))).toNat := by
  rw [hw]
  show N - ((i : Int) + 1).toNat < N - (i : Int).toNat
  omega
end Go.Proofs.Ytfkabmgbcdoijaa

/- A block has what its kids have together, and the votes for itself: plain facts. -/
import Derived.Test.YtfkabmgbcdoijaaGLaw

import Derived.Test.YtfkabmgbcdoijaaTKids

namespace Go.Proofs.Ytfkabmgbcdoijaa

open Go.ChangeShapes Go.WideShapes Go.ChangeAt Go.RowKit

set_option linter.unusedVariables false

/-- who stands on a block, stands on one of its kids, or is it -/
theorem climb_kid {bs : List TBlk} (h : TOk bs) {q : Nat} (hq : q < bs.length) : ∀ t, t < bs.length → (climb bs q t = q ↔ t = q ∨ ∃ j, 0 < j ∧ j < bs.length ∧ (tb bs j).par = q ∧ climb bs j t = j) := by
  intro t
  induction t using Nat.strongRecOn with
  | _ t ih =>
    intro ht
    rcases Nat.lt_trichotomy t q with hlt | rfl | hgt
    · rw [climb_stop (by omega)]
      refine ⟨fun e => by omega, fun e => ?_⟩
      rcases e with e | ⟨j, h0, hj, hp, hc⟩
      · omega
      · have := h.par j h0 hj
        rw [climb_stop (by omega)] at hc
        omega
    · exact ⟨fun _ => .inl rfl, fun _ => climb_stop (by omega)⟩
    · have hp := h.par t (by omega) ht
      rw [climb_go hgt hp]
      have hi := ih _ hp (by omega)
      constructor
      · intro e
        right
        by_cases e1 : (tb bs t).par = q
        · exact ⟨t, by omega, ht, e1, climb_stop (by omega)⟩
        · rcases hi.1 e with e2 | ⟨j, h0, hj, hpj, hc⟩
          · exact absurd e2 e1
          · have hle := climb_le bs j (tb bs t).par
            exact ⟨j, h0, hj, hpj, by rw [climb_go (by omega) hp]; exact hc⟩
      · rintro (e | ⟨j, h0, hj, hpj, hc⟩)
        · omega
        · have hle := climb_le bs j t
          by_cases e1 : j = t
          · subst e1
            rw [hpj]
            exact climb_stop (by omega)
          · exact hi.2 (.inr ⟨j, h0, hj, hpj, by rw [climb_go (by omega) hp] at hc; exact hc⟩)
theorem below_some {bs : List TBlk} {x r : Int} {t b : Nat} (hx : idx bs x = some t) (hr : idx bs r = some b) : belowB bs x r = decide (climb bs b t = b) := by
  unfold belowB
  rw [hx, hr]
theorem below_out {bs : List TBlk} {x r : Int} (hx : idx bs x = none) : belowB bs x r = false := by
  unfold belowB
  rw [hx]
/-- of its kids, as far as j -/
def onK (bs : List TBlk) (ks : List Int) (x : Int) : Bool := ks.any (fun k => belowB bs x k)
theorem below_kids {bs : List TBlk} (h : TOk bs) {q : Nat} (hq : q < bs.length) (x : Int) : belowB bs x (tb bs q).root = (onK bs (tb bs q).kids x || x == (tb bs q).root) ∧ ¬ (onK bs (tb bs q).kids x = true ∧ (x == (tb bs q).root) = true) := by
  have hqr := idx_of h hq
  cases hx : idx bs x with
  | none =>
    have e1 : (x == (tb bs q).root) = false := by
      simp only [beq_eq_false_iff_ne, ne_eq]
      rintro rfl
      rw [hqr] at hx; cases hx
    have e2 : onK bs (tb bs q).kids x = false := by
      unfold onK
      rw [List.any_eq_false]
      intro k _
      rw [below_out hx]
      simp
    rw [below_out hx, e1, e2]
    simp
  | some t =>
    obtain ⟨ht, hxr⟩ := idx_some hx
    have hk := climb_kid h hq t ht
    have e2 : onK bs (tb bs q).kids x = true ↔ ∃ j, 0 < j ∧ j < bs.length ∧ (tb bs j).par = q ∧ climb bs j t = j := by
      unfold onK
      rw [List.any_eq_true]
      constructor
      · rintro ⟨k, hk, hb⟩
        obtain ⟨j, h0, hj, hp, hr⟩ := (h.km q hq k).1 hk
        rw [← hr, below_some hx (idx_of h hj)] at hb
        exact ⟨j, h0, hj, hp, of_decide_eq_true hb⟩
      · rintro ⟨j, h0, hj, hp, hc⟩
        exact ⟨_, (h.km q hq _).2 ⟨j, h0, hj, hp, rfl⟩, by rw [below_some hx (idx_of h hj)]; exact decide_eq_true hc⟩
    have e3 : (x == (tb bs q).root) = true ↔ t = q := by
      rw [beq_iff_eq, ← hxr]
      exact ⟨fun e => h.one t q ht hq e, fun e => by rw [e]⟩
    refine ⟨?_, ?_⟩
    · rw [below_some hx hqr]
      apply Bool.eq_iff_iff.2
      rw [decide_eq_true_iff, hk, Bool.or_eq_true, e2, e3]
      exact Or.comm
    · rw [e2, e3]
      rintro ⟨⟨j, h0, hj, hp, hc⟩, rfl⟩
      have := h.par j h0 hj
      rw [climb_stop (by omega)] at hc
      omega
theorem kids_apart {bs : List TBlk} (h : TOk bs) {q : Nat} (hq : q < bs.length) {k1 k2 : Int} (h1 : k1 ∈ (tb bs q).kids) (h2 : k2 ∈ (tb bs q).kids) (hne : k1 ≠ k2) (x : Int) : ¬ (belowB bs x k1 = true ∧ belowB bs x k2 = true) := by
  rintro ⟨b1, b2⟩
  obtain ⟨j1, z1, l1, p1, r1⟩ := (h.km q hq k1).1 h1
  obtain ⟨j2, z2, l2, p2, r2⟩ := (h.km q hq k2).1 h2
  cases hx : idx bs x with
  | none => rw [below_out hx] at b1; cases b1
  | some t =>
    rw [← r1, below_some hx (idx_of h l1)] at b1
    rw [← r2, below_some hx (idx_of h l2)] at b2
    have b1 := of_decide_eq_true b1
    have b2 := of_decide_eq_true b2
    have key : ∀ i j, i < j → 0 < i → i < bs.length → 0 < j → j < bs.length → (tb bs i).par = q → (tb bs j).par = q → climb bs i t = i → climb bs j t = j → False := by
      intro i j hij zi li zj lj pi pj ci cj
      have pq := h.par i zi li
      rw [climb_climb bs (Nat.le_of_lt hij) t, cj, climb_go hij (h.par j zj lj), pj, climb_stop (by omega)] at ci
      omega
    rcases Nat.lt_trichotomy j1 j2 with hlt | rfl | hgt
    · exact key j1 j2 hlt z1 l1 z2 l2 p1 p2 b1 b2
    · exact hne (by rw [← r1, ← r2])
    · exact key j2 j1 hgt z2 l2 z1 l1 p2 p1 b2 b1
/-- one more kid -/
theorem kid_step {bs : List TBlk} (h : TOk bs) {q j : Nat} (hq : q < bs.length) (hj : j < (tb bs q).kids.length) (es : List Ent) (bal : List Int) :
    tv (onK bs ((tb bs q).kids.take (j + 1))) es bal = tv (onK bs ((tb bs q).kids.take j)) es bal + tv (fun x => belowB bs x ((tb bs q).kids.getD j 0)) es bal := by
  have hg : (tb bs q).kids.getD j 0 = (tb bs q).kids[j] := by rw [List.getD_eq_getElem?_getD, List.getElem?_eq_getElem hj]; rfl
  unfold tv
  refine tvK_add _ (fun i _ _ => ⟨?_, ?_⟩)
  · unfold onK
    rw [List.take_succ_eq_append_getElem hj, List.any_append, hg]
    simp
  · rintro ⟨h1, h2⟩
    unfold onK at h1
    obtain ⟨k, hk, hb⟩ := List.any_eq_true.1 h1
    have hkm := List.mem_of_mem_take hk
    have hne : k ≠ (tb bs q).kids[j] := by
      obtain ⟨i, hi, rfl⟩ := List.getElem_of_mem hk
      have hij : i < j := by rw [List.length_take] at hi; omega
      have := List.pairwise_iff_getElem.1 (h.kr q hq) i j (by omega) hj hij
      rw [List.getElem_take]
      omega
    exact kids_apart h hq hkm (List.getElem_mem hj) hne _ ⟨hb, by rw [← hg]; exact h2⟩
theorem kid_all {bs : List TBlk} (h : TOk bs) {q : Nat} (hq : q < bs.length) (es : List Ent) (bal : List Int) :
    tv (fun x => belowB bs x (tb bs q).root) es bal = tv (onK bs (tb bs q).kids) es bal + tv (fun x => x == (tb bs q).root) es bal := by
  unfold tv
  exact tvK_add _ (fun i _ _ => below_kids h hq _)
theorem kid_none (bs : List TBlk) (es : List Ent) (bal : List Int) : tv (onK bs []) es bal = 0 := tvK_none _ (fun _ _ _ => rfl)
variable {B : Nat} {bal : List Int} {S Bo : Int} {p : Nat} {bs : List TBlk} {a : Option Addr} {m c : Nat} {ms : List Nod} {es : List Ent} {x : Nat} {ao : Option Addr} {n d g i : Nat} {w w' : World}
theorem wV_zero (k : WC bal S Bo bs ms n m i) (r : Int) : wV bs es bal S Bo 0 r = tv (fun x => belowB bs x r) es bal % 18446744073709551616 := by
  unfold wV ofV
  rw [k.zero]
  simp only [cond_false]
  omega
end Go.Proofs.Ytfkabmgbcdoijaa

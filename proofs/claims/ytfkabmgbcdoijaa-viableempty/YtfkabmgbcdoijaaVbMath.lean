/- Which blocks may lead to the head: plain facts. -/
import Derived.Test.YtfkabmgbcdoijaaGKids

namespace Go.Proofs.Ytfkabmgbcdoijaa

open Go.ChangeShapes Go.WideShapes Go.ChangeAt Go.RowKit

set_option linter.unusedVariables false

/-- nothing stands on it -/
def lf (bs : List TBlk) (t : Nat) : Bool := (tb bs t).kids.isEmpty
/-- may a block lead on? ok: whether a root's block may be the head, if nothing stands on it -/
def ldB (bs : List TBlk) (ok : Int → Bool) (q : Nat) : Bool := (List.range bs.length).any fun t => decide (climb bs q t = q) && (lf bs t && ok (tb bs t).root)
theorem ldB_iff {bs : List TBlk} {ok : Int → Bool} {q : Nat} : ldB bs ok q = true ↔ ∃ t, t < bs.length ∧ climb bs q t = q ∧ lf bs t = true ∧ ok (tb bs t).root = true := by
  unfold ldB
  rw [List.any_eq_true]
  constructor
  · rintro ⟨t, ht, h⟩
    simp only [Bool.and_eq_true, decide_eq_true_eq] at h
    exact ⟨t, List.mem_range.1 ht, h.1, h.2.1, h.2.2⟩
  · rintro ⟨t, ht, h1, h2, h3⟩
    exact ⟨t, List.mem_range.2 ht, by simp [h1, h2, h3]⟩
/-- of a root -/
def ldR (bs : List TBlk) (ok : Int → Bool) (r : Int) : Bool := match idx bs r with | some q => ldB bs ok q | none => false
theorem ldR_of {bs : List TBlk} (h : TOk bs) (ok : Int → Bool) {q : Nat} (hq : q < bs.length) : ldR bs ok (tb bs q).root = ldB bs ok q := by
  unfold ldR; rw [idx_of h hq]
theorem ldR_some {bs : List TBlk} {ok : Int → Bool} {r : Int} (h : ldR bs ok r = true) : ∃ q, idx bs r = some q ∧ ldB bs ok q = true := by
  unfold ldR at h
  cases hx : idx bs r with
  | none => rw [hx] at h; cases h
  | some q => rw [hx] at h; exact ⟨q, rfl, h⟩
theorem lf_iff {bs : List TBlk} (h : TOk bs) {q : Nat} (hq : q < bs.length) : lf bs q = true ↔ ¬ ∃ j, 0 < j ∧ j < bs.length ∧ (tb bs j).par = q := by
  unfold lf
  rw [List.isEmpty_iff]
  constructor
  · rintro e ⟨j, h0, hj, hp⟩
    have := (h.km q hq (tb bs j).root).2 ⟨j, h0, hj, hp, rfl⟩
    rw [e] at this
    cases this
  · intro hn
    cases hk : (tb bs q).kids with
    | nil => rfl
    | cons x xs =>
      obtain ⟨j, h0, hj, hp, _⟩ := (h.km q hq x).1 (by rw [hk]; simp)
      exact absurd ⟨j, h0, hj, hp⟩ hn
theorem ldB_rec {bs : List TBlk} (h : TOk bs) (ok : Int → Bool) {q : Nat} (hq : q < bs.length) :
    ldB bs ok q = true ↔ (lf bs q = true ∧ ok (tb bs q).root = true) ∨ ∃ j, 0 < j ∧ j < bs.length ∧ (tb bs j).par = q ∧ ldB bs ok j = true := by
  rw [ldB_iff]
  constructor
  · rintro ⟨t, ht, hc, h1, h2⟩
    rcases (climb_kid h hq t ht).1 hc with rfl | ⟨j, h0, hj, hp, hcj⟩
    · exact .inl ⟨h1, h2⟩
    · exact .inr ⟨j, h0, hj, hp, ldB_iff.2 ⟨t, ht, hcj, h1, h2⟩⟩
  · rintro (⟨h1, h2⟩ | ⟨j, h0, hj, hp, hm⟩)
    · exact ⟨q, hq, climb_stop (by omega), h1, h2⟩
    · obtain ⟨t, ht, hc, h1, h2⟩ := ldB_iff.1 hm
      exact ⟨t, ht, (climb_kid h hq t ht).2 (.inr ⟨j, h0, hj, hp, hc⟩), h1, h2⟩
/-- does one of these lead on? -/
def anyM (bs : List TBlk) (ok : Int → Bool) (ks : List Int) : Bool := ks.any (ldR bs ok)
theorem anyM_kids {bs : List TBlk} (h : TOk bs) (ok : Int → Bool) {q : Nat} (hq : q < bs.length) : anyM bs ok (tb bs q).kids = true ↔ ∃ j, 0 < j ∧ j < bs.length ∧ (tb bs j).par = q ∧ ldB bs ok j = true := by
  unfold anyM
  rw [List.any_eq_true]
  constructor
  · rintro ⟨k, hk, hm⟩
    obtain ⟨j, h0, hj, hp, rfl⟩ := (h.km q hq k).1 hk
    exact ⟨j, h0, hj, hp, by rw [ldR_of h ok hj] at hm; exact hm⟩
  · rintro ⟨j, h0, hj, hp, hm⟩
    exact ⟨_, (h.km q hq _).2 ⟨j, h0, hj, hp, rfl⟩, by rw [ldR_of h ok hj]; exact hm⟩
theorem ldB_all {bs : List TBlk} (h : TOk bs) (ok : Int → Bool) {q : Nat} (hq : q < bs.length) : ldB bs ok q = ((lf bs q && ok (tb bs q).root) || anyM bs ok (tb bs q).kids) := by
  apply Bool.eq_iff_iff.2
  rw [ldB_rec h ok hq, Bool.or_eq_true, Bool.and_eq_true, anyM_kids h ok hq]
theorem anyM_take (bs : List TBlk) (ok : Int → Bool) (ks : List Int) {j : Nat} (hj : j < ks.length) : anyM bs ok (ks.take (j + 1)) = (anyM bs ok (ks.take j) || ldR bs ok (ks.getD j 0)) := by
  unfold anyM
  rw [List.take_succ_eq_append_getElem hj, List.any_append, List.getD_eq_getElem?_getD, List.getElem?_eq_getElem hj]
  simp
/-- may, and stands on one of these -/
def onM (bs : List TBlk) (ok : Int → Bool) (ks : List Int) (x : Int) : Bool := ldR bs ok x && onK bs ks x
theorem onM_take (bs : List TBlk) (ok : Int → Bool) (ks : List Int) {j : Nat} (hj : j < ks.length) (x : Int) : onM bs ok (ks.take (j + 1)) x = (onM bs ok (ks.take j) x || (ldR bs ok x && belowB bs x (ks.getD j 0))) := by
  unfold onM onK
  rw [List.take_succ_eq_append_getElem hj, List.any_append, List.getD_eq_getElem?_getD, List.getElem?_eq_getElem hj]
  cases ldR bs ok x <;> simp
theorem onM_end {bs : List TBlk} (h : TOk bs) (ok : Int → Bool) {q : Nat} (hq : q < bs.length) (x : Int) :
    (ldR bs ok x && belowB bs x (tb bs q).root) = (onM bs ok (tb bs q).kids x || (ldB bs ok q && x == (tb bs q).root)) := by
  rw [(below_kids h hq x).1]
  unfold onM
  by_cases e : x = (tb bs q).root
  · subst e
    rw [ldR_of h ok hq]
    cases ldB bs ok q <;> simp
  · have : (x == (tb bs q).root) = false := by simpa using e
    rw [this]
    cases ldR bs ok x <;> simp
/-- all that may stand on the first block -/
theorem under_first {bs : List TBlk} (h : TOk bs) (ok : Int → Bool) (x : Int) : (ldR bs ok x && belowB bs x (tb bs 0).root) = ldR bs ok x := by
  cases hx : idx bs x with
  | none => unfold ldR; rw [hx]; rfl
  | some t =>
    rw [below_some hx (idx_of h h.pos)]
    have : climb bs 0 t = 0 := by
      obtain ⟨ht, hr⟩ := idx_some hx
      clear hx hr
      induction t using Nat.strongRecOn with
      | _ t ih =>
        by_cases h0 : 0 < t
        · have hp := h.par t h0 ht
          rw [climb_go h0 hp]
          exact ih _ hp (by omega)
        · rw [climb_stop h0]; omega
    rw [this]
    simp
/-- whether what one has as justified is what is, or not long ago -/
def agB (je ep s : Int) : Bool := decide (je = 0) || (decide (s = je) || decide (ep ≤ s + 2))
/-- whether a block on which nothing stands may be the head -/
def okV (bs : List TBlk) (je fr ep : Int) (f : Int → Option Nat) (r : Int) : Bool := agB je ep ((f r).getD 0 : Nat) && belowB bs r fr
end Go.Proofs.Ytfkabmgbcdoijaa

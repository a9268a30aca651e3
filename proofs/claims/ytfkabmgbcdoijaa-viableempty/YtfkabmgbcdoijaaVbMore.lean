/- How many may lead on: plain facts; the map tells it. -/
import Derived.Test.YtfkabmgbcdoijaaVbModel

namespace Go.Proofs.Ytfkabmgbcdoijaa

open Go.ChangeShapes Go.WideShapes Go.ChangeAt Go.RowKit Go.Maps

set_option linter.unusedVariables false

/-- the roots of the first k blocks that may -/
def mayL (bs : List TBlk) (ok : Int → Bool) (k : Nat) : List Int := ((List.range k).filter (fun t => ldB bs ok t)).map (fun t => (tb bs t).root)
theorem mayL_succ (bs : List TBlk) (ok : Int → Bool) (k : Nat) : (mayL bs ok (k + 1)).length = (mayL bs ok k).length + (if ldB bs ok k = true then 1 else 0) := by
  unfold mayL
  rw [List.range_succ, List.filter_append, List.map_append, List.length_append]
  congr 1
  by_cases h : ldB bs ok k = true
  · simp [h]
  · simp [h]
theorem mayL_nodup {bs : List TBlk} (h : TOk bs) (ok : Int → Bool) {k : Nat} (hk : k ≤ bs.length) : (mayL bs ok k).Nodup := by
  unfold mayL
  rw [List.Nodup, List.pairwise_map]
  refine ((List.nodup_range (n := k)).filter _).imp_of_mem (fun {a b} ha hb hne e => ?_)
  have h1 := List.mem_range.1 (List.mem_filter.1 ha).1
  have h2 := List.mem_range.1 (List.mem_filter.1 hb).1
  exact hne (h.one a b (by omega) (by omega) e)
theorem mayL_mem {bs : List TBlk} (h : TOk bs) (ok : Int → Bool) (x : Int) : x ∈ mayL bs ok bs.length ↔ ldR bs ok x = true := by
  unfold mayL
  rw [List.mem_map]
  constructor
  · rintro ⟨t, ht, rfl⟩
    obtain ⟨h1, h2⟩ := List.mem_filter.1 ht
    rw [ldR_of h ok (List.mem_range.1 h1)]; exact h2
  · intro hx
    obtain ⟨q, h1, h2⟩ := ldR_some hx
    obtain ⟨h3, h4⟩ := idx_some h1
    exact ⟨q, List.mem_filter.2 ⟨List.mem_range.2 h3, h2⟩, h4⟩
/-- how many may -/
theorem MapB.count {w : World} {b n : Nat} {bs : List TBlk} {ok : Int → Bool} (h : MapB w b n (ldR bs ok)) (hO : TOk bs) (ty : TypeId) :
    (Builtin.len_ #[36] ty #[.map (some b)]).run Try.prog w = .ok (.int .i64 ((mayL bs ok bs.length).length : Int)) w :=
  h.len (mayL_nodup hO ok (Nat.le_refl _)) (mayL_mem hO ok) ty
theorem mayL_le (bs : List TBlk) (ok : Int → Bool) : ∀ k, (mayL bs ok k).length ≤ k := fun k => by
  unfold mayL
  rw [List.length_map]
  exact Nat.le_trans (List.length_filter_le _ _) (by simp)
/-- where all that may be the head, all may -/
theorem ldB_true {bs : List TBlk} (h : TOk bs) {ok : Int → Bool} (hall : ∀ t, t < bs.length → lf bs t = true → ok (tb bs t).root = true) : ∀ d q, bs.length - q ≤ d → q < bs.length → ldB bs ok q = true := by
  intro d
  induction d with
  | zero => intro q h1 h2; omega
  | succ d ih =>
    intro q hd hq
    rw [ldB_rec h ok hq]
    by_cases hl : lf bs q = true
    · exact .inl ⟨hl, hall q hq hl⟩
    · right
      have := Classical.byContradiction (fun e => hl ((lf_iff h hq).2 e))
      obtain ⟨j, h0, hj, hp⟩ := this
      have := h.par j h0 hj
      exact ⟨j, h0, hj, hp, ih j (by omega) hj⟩
theorem ldB_false {bs : List TBlk} {ok : Int → Bool} (hall : ∀ t, t < bs.length → lf bs t = true → ok (tb bs t).root = false) (q : Nat) : ldB bs ok q = false := by
  cases hx : ldB bs ok q with
  | false => rfl
  | true =>
    obtain ⟨t, ht, _, h1, h2⟩ := ldB_iff.1 hx
    rw [hall t ht h1] at h2; cases h2
theorem mayL_all {bs : List TBlk} (h : TOk bs) {ok : Int → Bool} (hall : ∀ t, t < bs.length → lf bs t = true → ok (tb bs t).root = true) : ∀ k, k ≤ bs.length → (mayL bs ok k).length = k := by
  intro k
  induction k with
  | zero => intro _; rfl
  | succ k ih =>
    intro hk
    rw [mayL_succ, ih (by omega), if_pos (ldB_true h hall bs.length k (by omega) (by omega))]
theorem mayL_none {bs : List TBlk} {ok : Int → Bool} (hall : ∀ t, t < bs.length → lf bs t = true → ok (tb bs t).root = false) : ∀ k, (mayL bs ok k).length = 0 := by
  intro k
  induction k with
  | zero => rfl
  | succ k ih =>
    rw [mayL_succ, ih, if_neg (by rw [ldB_false hall]; simp)]
theorem below_first {bs : List TBlk} (h : TOk bs) {t : Nat} (ht : t < bs.length) : belowB bs (tb bs t).root (tb bs 0).root = true := by
  have := under_first h (fun _ => true) (tb bs t).root
  rw [ldR_of h _ ht, ldB_true h (fun _ _ _ => rfl) bs.length t (by omega) ht] at this
  simpa using this
/-- more that may be the head: more that may -/
theorem ldB_mono {bs : List TBlk} {ok ok' : Int → Bool} (h : ∀ x, ok x = true → ok' x = true) {q : Nat} (hq : ldB bs ok q = true) : ldB bs ok' q = true := by
  obtain ⟨t, ht, h1, h2, h3⟩ := ldB_iff.1 hq
  exact ldB_iff.2 ⟨t, ht, h1, h2, h _ h3⟩
theorem ldR_mono {bs : List TBlk} {ok ok' : Int → Bool} (h : ∀ x, ok x = true → ok' x = true) {x : Int} (hx : ldR bs ok x = true) : ldR bs ok' x = true := by
  obtain ⟨q, h1, h2⟩ := ldR_some hx
  unfold ldR
  rw [h1]
  exact ldB_mono h h2
theorem mayL_mono {bs : List TBlk} {ok ok' : Int → Bool} (h : ∀ x, ok x = true → ok' x = true) : ∀ k, (mayL bs ok k).length ≤ (mayL bs ok' k).length := by
  intro k
  induction k with
  | zero => exact Nat.le_refl _
  | succ k ih =>
    rw [mayL_succ, mayL_succ]
    by_cases h1 : ldB bs ok k = true
    · rw [if_pos h1, if_pos (ldB_mono h h1)]; omega
    · rw [if_neg h1]; split <;> omega
/-- its parent may, too -/
theorem ldB_par {bs : List TBlk} (h : TOk bs) {ok : Int → Bool} {q : Nat} (h0 : 0 < q) (hq : q < bs.length) (hm : ldB bs ok q = true) : ldB bs ok (tb bs q).par = true :=
  (ldB_rec h ok (h.par_le hq)).2 (.inr ⟨q, h0, hq, rfl, hm⟩)
/-- in a view in which what is justified is the first block's -/
theorem okV_first {bs : List TBlk} (h : TOk bs) (ep : Int) (f : Int → Option Nat) (t : Nat) (ht : t < bs.length) : okV bs 0 (tb bs 0).root ep f (tb bs t).root = true := by
  unfold okV
  rw [below_first h ht]
  rfl
end Go.Proofs.Ytfkabmgbcdoijaa

/- One tree in a call: Add from state to state; plain facts on what stands on what. -/
import Derived.Test.YtfkabmgbcdoijaaTCut

namespace Go.Proofs.Ytfkabmgbcdoijaa

open Go.ChangeShapes Go.WideShapes Go.ChangeAt Go.RowKit

set_option linter.unusedVariables false

/-- what Add makes of a tree -/
def Next (bs : List TBlk) (r q s : Int) (bs' : List TBlk) : Prop :=
  (addE bs r q s ≠ 0 ∧ bs' = bs) ∨ (addE bs r q s = 0 ∧ ∃ o k, idx bs q = some o ∧ idx bs r = none ∧ bs.length < 1024 ∧ (tb bs o).slot < s ∧ k ≤ (tb bs o).kids.length ∧ Spot (tb bs o).kids r k k ∧ bs' = layB bs r o s k)
theorem Next.ok {bs bs' : List TBlk} {r q s : Int} (h : Next bs r q s bs') (hO : TOk bs) (hU : U64 r) (hs : I64 s) : TOk bs' := by
  rcases h with ⟨_, rfl⟩ | ⟨_, o, k, h1, h2, h3, _, h5, h6, rfl⟩
  · exact hO
  · exact layB_ok hO h2 hU hs (idx_some h1).1 h3 h5 h6
theorem add_one (B p : Nat) (bs : List TBlk) (r q s : Int) (w : World) (hB : B ≤ w.heap.size) (hT : TAt w (fun k => B ≤ k) p bs) (hO : TOk bs) (hU : U64 r) (hq : U64 q) (hs : I64 s) :
    Calls Try.prog 16 #[.pointer (some ⟨p, 0, none⟩), .int .u64 r, .int .u64 q, .int .i64 s] w fun e w' => e = .returned (errV (addE bs r q s)) ∧ ∃ bs', Next bs r q s bs' ∧ TAt w' (fun k => B ≤ k) p bs' ∧ Below B w w' := by
  refine (add_any _ p bs r q s w hT hO hU hq hs).mono ?_
  rintro e w' ⟨rfl, h⟩
  refine ⟨rfl, ?_⟩
  rcases h with ⟨h1, rfl⟩ | ⟨h1, o, F', k, h2, h3, h4, h5, h6, h7, h8, h9, h10⟩
  · exact ⟨bs, .inl ⟨h1, rfl⟩, hT, Below.refl _ _⟩
  · refine ⟨_, .inr ⟨h1, o, k, h2, h3, h4, h5, h7, h8, rfl⟩, h6.mono (fun i hi => ?_), h9.below hB (fun i hi => hi)⟩
    rcases h10 i hi with h | h
    · exact h
    · omega

theorem climb_climb (bs : List TBlk) {c b : Nat} (hcb : c ≤ b) : ∀ t, climb bs c t = climb bs c (climb bs b t) := by
  intro t
  induction t using Nat.strongRecOn with
  | _ t ih =>
    by_cases h : b < t ∧ (tb bs t).par < t
    · rw [climb_go h.1 h.2, climb_go (by omega) h.2, ih _ h.2]
    · have e : climb bs b t = t := by rw [climb, dif_neg h]
      rw [e]
theorem belowB_self (bs : List TBlk) (x : Int) : belowB bs x x = (idx bs x).isSome := by
  unfold belowB
  cases idx bs x with
  | none => rfl
  | some t => simp [stands_self]
theorem belowB_anti {bs : List TBlk} {x y : Int} (h1 : belowB bs x y = true) (h2 : belowB bs y x = true) : x = y := by
  unfold belowB at h1 h2
  cases hx : idx bs x with
  | none => rw [hx] at h1; cases h1
  | some t =>
    cases hy : idx bs y with
    | none => rw [hx, hy] at h1; cases h1
    | some b =>
      rw [hx, hy] at h1
      rw [hx, hy] at h2
      have e1 := stands_ge (of_decide_eq_true h1)
      have e2 := stands_ge (of_decide_eq_true h2)
      have e : t = b := by omega
      subst e
      rw [← (idx_some hx).2, ← (idx_some hy).2]
theorem belowB_trans {bs : List TBlk} {x y z : Int} (h1 : belowB bs x y = true) (h2 : belowB bs y z = true) : belowB bs x z = true := by
  unfold belowB at h1 h2 ⊢
  cases hx : idx bs x with
  | none => rw [hx] at h1; cases h1
  | some t =>
    cases hy : idx bs y with
    | none => rw [hx, hy] at h1; cases h1
    | some b =>
      cases hz : idx bs z with
      | none => rw [hy, hz] at h2; cases h2
      | some c =>
        rw [hx, hy] at h1
        rw [hy, hz] at h2
        have e1 := of_decide_eq_true h1
        have e2 := of_decide_eq_true h2
        have := climb_climb bs (stands_ge e2) t
        rw [e1, e2] at this
        simp [this]
end Go.Proofs.Ytfkabmgbcdoijaa

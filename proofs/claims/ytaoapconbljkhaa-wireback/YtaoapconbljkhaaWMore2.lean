/- More on regions that draw their order; what counts of events: plain facts. -/
import Derived.Test.YtaoapconbljkhaaWBare
namespace Go.Proofs.Ytaoapconbljkhaa
open Go.ChangeShapes Go.WideShapes Go.ChangeAt Go.RowKit
set_option linter.unusedVariables false

/-- more may be held from here on -/
theorem wpAnyH_strong {P : Program} {md : Region.Mode} {ops : Array Oper} {Q : Exit → Act → World → Prop} {S S' : World → Prop} (h : ∀ w, S' w → S w) : ∀ (fuel : Nat) (listed : Array Bool) (a : Act) (w : World), wpAnyH P md ops Q S' fuel listed a w → wpAnyH P md ops Q S fuel listed a w
  | 0, _, _, _, hh => hh
  | fuel + 1, listed, a, w, hh => ⟨hh.1, fun i hi => wpOp_mono (fun a' w' hk => ⟨h w' hk.1, wpAnyH_strong h fuel _ a' w' hk.2⟩) (hh.2 i hi)⟩

theorem bare_cases {e : Ev} (h : evB e = true) : (e.kind = 0 ∧ bareE e = ⟨0, e.slot, bkZ, vtZ, pfZ⟩) ∨ (e.kind = 1 ∧ bareE e = ⟨1, 0, e.block, vtZ, pfZ⟩) ∨ (e.kind = 2 ∧ bareE e = ⟨2, 0, bkZ, e.vote, pfZ⟩) ∨ (e.kind = 3 ∧ bareE e = ⟨3, 0, bkZ, vtZ, e.proof⟩) := by
  obtain ⟨kd, es, bk, vt, pf⟩ := e
  by_cases k0 : kd = 0
  · subst k0; exact .inl ⟨rfl, rfl⟩
  by_cases k1 : kd = 1
  · subst k1; exact .inr (.inl ⟨rfl, rfl⟩)
  by_cases k2 : kd = 2
  · subst k2; exact .inr (.inr (.inl ⟨rfl, rfl⟩))
  by_cases k3 : kd = 3
  · subst k3; exact .inr (.inr (.inr ⟨rfl, rfl⟩))
  simp [evB, k0, k1, k2, k3] at h
theorem bare_evB {e : Ev} (h : evB e = true) : evB (bareE e) = true := by
  obtain ⟨kd, es, bk, vt, pf⟩ := e
  rcases bare_cases h with ⟨h1, h2⟩ | ⟨h1, h2⟩ | ⟨h1, h2⟩ | ⟨h1, h2⟩ <;> (rw [h2]; simp only at h1; subst h1; exact h)
theorem bare_ns {e : Ev} (h : evB e = true) : evNs (bareE e) = evNs e := by
  obtain ⟨kd, es, bk, vt, pf⟩ := e
  rcases bare_cases h with ⟨h1, h2⟩ | ⟨h1, h2⟩ | ⟨h1, h2⟩ | ⟨h1, h2⟩ <;> (rw [h2]; simp only at h1; subst h1; rfl)
theorem bare_bytes : ∀ (es : List Ev), (∀ e ∈ es, evB e = true) → bytesOf (es.map bareE) = bytesOf es
  | [], _ => rfl
  | e :: es, h => by
    show evBytes (bareE e) ++ bytesOf (es.map bareE) = evBytes e ++ bytesOf es
    rw [bare_bytes es (fun x hx => h x (by simp [hx])), evBytes, evBytes, bare_ns (h e (by simp))]
end Go.Proofs.Ytaoapconbljkhaa

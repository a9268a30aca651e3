/- Regions that draw their order, walked by hand. -/
import Derived.Test.YtfkabmgbcdoijaaProg

import Derived.WalkKit

import Derived.ProofKit

import Derived.Deep.RegionHeld3

namespace Go.Proofs.Ytfkabmgbcdoijaa

open Go.ChangeShapes Go.WideShapes Go.ChangeAt Go.RowKit

set_option linter.unusedVariables false

/-- in a region that draws its order: an operation is taken first; the frame is laid out as a list -/
theorem take_set {P : Program} {md : Region.Mode} {ops : Array Oper} {S : World → Prop} {Q : Exit → Act → World → Prop} {i d : Nat} {oi : Oper} {v : Value} {fuel : Nat} {listed : Array Bool} {t : List Value} {df : List Deferred} {w : World} (hi : ops[i]? = some oi) (hd : oi.dst = some d)
    (hs : Region.noSelect ops = true) (hf : Region.free md ops listed i = true) (hr : (Region.ready md ops listed).contains i = true)
    (hQ : ∀ c a w, Q (.panic c) (Act.put a oi.dst v) w → Q (.panic c) a w) (hy : YieldsIf P ops S oi v ⟨t.toArray, df⟩) (hS : S w)
    (h : wpAnyH P md ops Q S fuel (listed.setIfInBounds i true) ⟨(t.set d v).toArray, df⟩ w) : wpAnyH P md ops Q S (fuel + 1) listed ⟨t.toArray, df⟩ w := by
  refine wpAnyH_take hi hs hf hr hQ hy hS ?_
  rw [hd]
  have e : Act.put ⟨t.toArray, df⟩ (some d) v = ⟨(t.set d v).toArray, df⟩ := by simp [Act.put]
  rw [e]
  exact h
/-- what is held may be made stronger -/
theorem wpAnyH_strong {P : Program} {md : Region.Mode} {ops : Array Oper} {Q : Exit → Act → World → Prop} {S S' : World → Prop} (h : ∀ w, S' w → S w) : ∀ (fuel : Nat) (listed : Array Bool) (a : Act) (w : World), wpAnyH P md ops Q S' fuel listed a w → wpAnyH P md ops Q S fuel listed a w
  | 0, _, _, _, hh => hh
  | fuel + 1, listed, a, w, hh => ⟨hh.1, fun i hi => wpOp_mono (fun a' w' hk => ⟨h w' hk.1, wpAnyH_strong h fuel _ a' w' hk.2⟩) (hh.2 i hi)⟩

end Go.Proofs.Ytfkabmgbcdoijaa

/- Two arrays of four bools, compared. -/
import Derived.Test.YtphahkjjmomjcaaProg

import Derived.WalkKit

import Derived.ProofKit

import Derived.Laws.StructEq

namespace Go.Proofs.Ytphahkjjmomjcaa

open Go.ChangeShapes Go.WideShapes Go.ChangeAt Go.RowKit

set_option linter.unusedVariables false

theorem eq4 (d : Nat) (x0 x1 x2 x3 y0 y1 y2 y3 : Bool) (w : World) :
    (Op.equalIn (d + 2) 60 (.agg #[.bool x0, .bool x1, .bool x2, .bool x3]) (.agg #[.bool y0, .bool y1, .bool y2, .bool y3])).run Try.prog w = .ok (x0 == y0 && (x1 == y1 && (x2 == y2 && x3 == y3))) w := by
  rw [Op.equalIn]
  simp only [Sem.run_bind, run_underlying Try.underlying60, Result.andThen_ok]
  have hs : (sizeOf 4).run Try.prog w = .ok 1 w := by kernel_rfl
  rw [hs]
  simp only [Result.andThen_ok, Std.Legacy.Range.forIn_eq_forIn_range']
  have hp : ∀ (a b c e : Bool) (w : World), (part 4 #[.bool a, .bool b, .bool c, .bool e] 0).run Try.prog w = .ok (.bool a) w ∧ (part 4 #[.bool a, .bool b, .bool c, .bool e] 1).run Try.prog w = .ok (.bool b) w ∧ (part 4 #[.bool a, .bool b, .bool c, .bool e] 2).run Try.prog w = .ok (.bool c) w ∧ (part 4 #[.bool a, .bool b, .bool c, .bool e] 3).run Try.prog w = .ok (.bool e) w := fun a b c e w => ⟨by kernel_rfl, by kernel_rfl, by kernel_rfl, by kernel_rfl⟩
  have hq : ∀ (a b : Bool) (w : World), (Op.equalIn (d + 1) 4 (.bool a) (.bool b)).run Try.prog w = .ok (a == b) w := fun a b w => run_equalIn_bool' w d 4 a b Try.underlying4
  simp [List.range', Std.Legacy.Range.size, hp, hq]
  by_cases h0 : x0 = y0
  · by_cases h1 : x1 = y1
    · by_cases h2 : x2 = y2
      · by_cases h3 : x3 = y3
        · simp [*]
        · simp [*]
      · simp [*]
    · simp [*]
  · simp [*]
/-- the form in which the walk asks it -/
theorem eq4w : ∀ (x0 x1 x2 x3 y0 y1 y2 y3 : Bool) (w : World), (Op.equalIn 10000 60 (.agg #[.bool x0, .bool x1, .bool x2, .bool x3]) (.agg #[.bool y0, .bool y1, .bool y2, .bool y3])).run Try.prog w = .ok (x0 == y0 && (x1 == y1 && (x2 == y2 && x3 == y3))) w := fun x0 x1 x2 x3 y0 y1 y2 y3 w => eq4 9998 x0 x1 x2 x3 y0 y1 y2 y3 w
end Go.Proofs.Ytphahkjjmomjcaa

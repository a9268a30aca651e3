/- A load of a whole struct, by its run. -/
import Derived.Test.YtphahkjjmomjcaaLHelp

namespace Go.Proofs.Ytphahkjjmomjcaa

open Go.ChangeShapes Go.WideShapes Go.ChangeAt Go.RowKit
theorem run_load_whole {P : Program} {o : Oper} {ρ : Operand → Value} {w : World} (ty : TypeId) (x : Operand) (ho : o.op = .load ty x) (v r : Value) (hx : ρ x = v) (hrun : (Instr.loadAt ty v).run P w = .ok r w) : (execOp ρ o).run P w = .ok (.value r) w := by
  unfold execOp
  simp only [ho, hx, Sem.run_bind, Result.andThen_ok, hrun]
  rfl
end Go.Proofs.Ytphahkjjmomjcaa

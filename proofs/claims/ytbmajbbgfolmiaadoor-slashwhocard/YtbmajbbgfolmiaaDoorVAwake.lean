/- The document's examples of layer 5 ('awake'). -/
import Derived.Test.YtbmajbbgfolmiaaDoorVMake

namespace Go.Proofs.YtbmajbbgfolmiaaDoor

open Go.ChangeShapes Go.WideShapes Go.ChangeAt Go.RowKit

set_option linter.unusedVariables false

theorem bth_ex : bth [1, 3, 5] [3, 4, 5] = [3, 5] :=
  lt_ext _ _ (bth_lt _ _) (by simp) (fun z => by rw [mem_bth]; simp; omega)

end Go.Proofs.YtbmajbbgfolmiaaDoor

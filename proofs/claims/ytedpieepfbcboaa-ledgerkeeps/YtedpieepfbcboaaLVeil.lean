/- Functions that are laid into variables: the guide's laws. -/
import Derived.Test.YtedpieepfbcboaaLHelp2

import Derived.Laws.EntriesVeiled

namespace Go.Proofs.Ytedpieepfbcboaa

open Go.ChangeShapes Go.WideShapes Go.ChangeAt Go.RowKit

end Go.Proofs.Ytedpieepfbcboaa

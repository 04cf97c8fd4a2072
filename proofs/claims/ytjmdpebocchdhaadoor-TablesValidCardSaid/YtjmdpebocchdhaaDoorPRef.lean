/- The functions of the reference of layer 4 that only read: sizes, valid planes, equal lists, equal planes. -/
import Derived.Test.YtjmdpebocchdhaaDoorPPlain
import Derived.BigQuiet
import Derived.Deep.QuietTactic
namespace Go.Proofs.YtjmdpebocchdhaaDoor
open Go.ChangeShapes Go.WideShapes Go.ChangeAt Go.RowKit
set_option linter.unusedVariables false
set_option linter.unusedSimpArgs false

end Go.Proofs.YtjmdpebocchdhaaDoor

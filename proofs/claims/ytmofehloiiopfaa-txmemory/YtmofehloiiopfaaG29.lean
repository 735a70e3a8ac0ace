/- A part of what was handed in is no bigger than all of it. -/
import Derived.Test.YtmofehloiiopfaaG09
namespace Go.Proofs.Ytmofehloiiopfaa
open Go.ChangeShapes Go.WideShapes Go.ChangeAt Go.RowKit
set_option linter.unusedVariables false
end Go.Proofs.Ytmofehloiiopfaa

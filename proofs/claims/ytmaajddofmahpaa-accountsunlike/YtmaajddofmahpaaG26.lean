/- What the document's first answers, for bytes that begin with a text, or with nothing. -/
import Derived.Test.YtmaajddofmahpaaG25
namespace Go.Proofs.Ytmaajddofmahpaa
open Go.RowKit
set_option linter.unusedVariables false
set_option maxRecDepth 100000
end Go.Proofs.Ytmaajddofmahpaa
/- What the document's first answers, for bytes that begin with a longer text, or a list. -/
namespace Go.Proofs.Ytmaajddofmahpaa
open Go.RowKit
set_option linter.unusedVariables false
set_option maxRecDepth 100000
end Go.Proofs.Ytmaajddofmahpaa

/- What the document's first answers, for bytes that begin with a longer text, or a list. -/
import Derived.Test.YtmofehloiiopfaaG16
namespace Go.Proofs.Ytmofehloiiopfaa
open Go.RowKit
set_option linter.unusedVariables false
set_option maxRecDepth 100000
end Go.Proofs.Ytmofehloiiopfaa
/- What the document's first answers, for bytes that begin with a list. -/
namespace Go.Proofs.Ytmofehloiiopfaa
open Go.RowKit
set_option linter.unusedVariables false
set_option maxRecDepth 100000
end Go.Proofs.Ytmofehloiiopfaa
/- What the document's items answers, by what first answers. -/
namespace Go.Proofs.Ytmofehloiiopfaa
open Go.RowKit
set_option linter.unusedVariables false
set_option maxRecDepth 100000
/-- While items goes on: the result's block, the box of the list, what is gathered. -/
structure Ib (w v U : World) (it : Value) (ts : List T) (ys : List V) : Prop where
  sz : U.heap.size = w.heap.size + 2
  res : U.heap[w.heap.size]? = some (.cells #[.bool false, .slice none 0 0, .slice none 0 0] 45)
  box : U.heap[w.heap.size + 1]? = some (.cells #[.bool true, .slice none 0 0, it] 45)
  bw : Below w.heap.size w U
  bel : Below U.heap.size U v
  own : OwnI v U.heap.size it ys
  all : AllP (fun b => U.heap.size ≤ b ∧ it.ownBlock ≠ some b) v ts ys
end Go.Proofs.Ytmofehloiiopfaa

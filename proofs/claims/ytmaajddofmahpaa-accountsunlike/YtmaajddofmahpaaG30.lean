/- What the document's Bytes and Key answer. -/
import Derived.Test.YtmaajddofmahpaaG29
namespace Go.Proofs.Ytmaajddofmahpaa.Wo
open Go.RowKit
set_option linter.unusedVariables false
def Lo (N : Nat) (a : Option Addr) : Prop := ∀ g off, a = some ⟨g, off, none⟩ → N ≤ g
end Go.Proofs.Ytmaajddofmahpaa.Wo
/- What the document's Read and Word answer. -/
namespace Go.Proofs.Ytmaajddofmahpaa.Wo
open Go.RowKit
set_option linter.unusedVariables false
set_option maxRecDepth 100000
end Go.Proofs.Ytmaajddofmahpaa.Wo

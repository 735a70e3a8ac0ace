/- What lengthIn answers. -/
import Derived.Test.YtmaajddofmahpaaG00
import Derived.Test.YtmaajddofmahpaaG02
namespace Go.Proofs.Ytmaajddofmahpaa
open Go.RowKit
set_option linter.unusedVariables false
end Go.Proofs.Ytmaajddofmahpaa
/- What bodyAt answers. -/
namespace Go.Proofs.Ytmaajddofmahpaa
open Go.RowKit
set_option linter.unusedVariables false
/-- What bodyAt tells. -/
def HR.f : HR → Nat | .bad _ => 0 | .ok f _ => f
def HR.t : HR → Nat | .bad _ => 0 | .ok _ t => t
def HR.e : HR → Nat | .bad e => e | .ok _ _ => 0
end Go.Proofs.Ytmaajddofmahpaa

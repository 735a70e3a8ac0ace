/- What lengthIn answers. -/
import Derived.Test.YtalhnnjpjaeakabGreatG09
namespace Go.Proofs.YtalhnnjpjaeakabGreat
open Go.RowKit
set_option linter.unusedVariables false
end Go.Proofs.YtalhnnjpjaeakabGreat
/- What bodyAt answers. -/
namespace Go.Proofs.YtalhnnjpjaeakabGreat
open Go.RowKit
set_option linter.unusedVariables false
/-- What bodyAt tells. -/
def HR.f : HR → Nat | .bad _ => 0 | .ok f _ => f
def HR.t : HR → Nat | .bad _ => 0 | .ok _ t => t
def HR.e : HR → Nat | .bad e => e | .ok _ _ => 0
end Go.Proofs.YtalhnnjpjaeakabGreat
/- What bodyAt answers. -/
namespace Go.Proofs.YtalhnnjpjaeakabGreat
open Go.RowKit
set_option linter.unusedVariables false
end Go.Proofs.YtalhnnjpjaeakabGreat

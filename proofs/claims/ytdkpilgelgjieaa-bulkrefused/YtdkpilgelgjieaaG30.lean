/- All keys and values of any tree, one by one. -/
import Derived.Test.YtdkpilgelgjieaaG29
import Derived.Test.YtdkpilgelgjieaaG19
import Derived.Test.YtdkpilgelgjieaaG26
namespace Go.Proofs.Ytdkpilgelgjieaa
open Go.RowKit
open Tr
set_option linter.unusedVariables false
set_option maxRecDepth 100000
def RB (U : Nat → Prop) (J : PList → World → Prop) (Jx : World → Prop) (w : World) (L : PList) : Value → World → Prop := fun u w' => ∃ b, u = .bool b ∧ (b = true → J L w' ∧ KpU U w.heap.size w w') ∧ (b = false → Jx w')
end Go.Proofs.Ytdkpilgelgjieaa
/- A range over a function that hands two values. -/
namespace Go.Proofs.Ytdkpilgelgjieaa
open Go.RowKit
open Go.ChangeMaps (setBlock)
set_option linter.unusedVariables false
set_option maxRecDepth 100000
section
variable {r : Option Nat} {m : Nat} {P : Program} {ds : List Deferred} {n : Nat} {Q : Exit → Act → World → Prop} {env : Env} {w w' : World} {ops : Array Oper} {l : List Oper} {o : Oper}
end
end Go.Proofs.Ytdkpilgelgjieaa
/- A range over all keys of a trie; how many there are. -/
namespace Go.Proofs.Ytdkpilgelgjieaa
open Go.RowKit
open Tr
set_option linter.unusedVariables false
set_option maxRecDepth 100000
end Go.Proofs.Ytdkpilgelgjieaa
/- A Put and a Delete take each other back. -/
namespace Go.Proofs.Ytdkpilgelgjieaa
set_option linter.unusedVariables false
namespace Tr
end Tr
end Go.Proofs.Ytdkpilgelgjieaa

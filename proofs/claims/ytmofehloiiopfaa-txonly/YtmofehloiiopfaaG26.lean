/- Digests of bytes, as the walk asks them; eight bytes of one. -/
import Derived.Test.YtmofehloiiopfaaG20
import Derived.Test.YtmofehloiiopfaaG25
namespace Go.Proofs.Ytmofehloiiopfaa
open Go.RowKit
open Di (dref)
set_option linter.unusedVariables false
set_option maxRecDepth 100000
def z32 : List Int := List.replicate 32 0
def isB (b : List Int) : Prop := ∀ x ∈ b, 0 ≤ x ∧ x < 256
def B8 (bs : List Int) : Array Value := (bs.map (Value.int .u8)).toArray
theorem B8_size (bs : List Int) : (B8 bs).size = bs.length := by simp [B8]
theorem B8_one (bs : List Int) : (B8 bs).all (·.oneCell') = true := all_oneCell_toArray (B8_one2 bs)
/-- The address of what a sender makes. -/
def maX (s n : Nat) : Nat := (Wo.wdP ((dref (Wo.bek 8 s ++ Wo.bek 8 n)).take 8)).1
end Go.Proofs.Ytmofehloiiopfaa
/- The document's Made. -/
namespace Go.Proofs.Ytmofehloiiopfaa
open Go.RowKit
open Di (dref)
set_option linter.unusedVariables false
set_option linter.unusedSimpArgs false
set_option maxRecDepth 100000
end Go.Proofs.Ytmofehloiiopfaa
/- The program's Made. -/
namespace Go.Proofs.Ytmofehloiiopfaa
open Go.RowKit
open Di (dref)
set_option linter.unusedVariables false
set_option linter.unusedSimpArgs false
set_option maxRecDepth 100000
end Go.Proofs.Ytmofehloiiopfaa

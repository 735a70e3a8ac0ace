/- What Refer, EmptyRoot and EmptyCode answer, the program's and the document's. -/
import Derived.Test.YtalhnnjpjaeakabGreatG20
import Derived.Test.YtalhnnjpjaeakabGreatG03
import Derived.Test.YtalhnnjpjaeakabGreatG23
import Derived.Test.YtalhnnjpjaeakabGreatG19
import Derived.Test.YtalhnnjpjaeakabGreatG04
namespace Go.Proofs.YtalhnnjpjaeakabGreat
open Go.RowKit
open Di (dref)
set_option linter.unusedVariables false
set_option maxRecDepth 100000
theorem dof_any (a : Option Addr) (n c : Nat) (b : List Int) (w : World) (h : Ag w a n c b) (hn : n ≤ 140737488351232) : Calls Tryz.prog 25 #[.slice a n c] w fun e w' => e = .returned (.agg (B8 (dref b))) ∧ Below w.heap.size w w' :=
  Di.of_any a n c b w h.i h.l.symm h.b (by omega)
theorem rdof_any (a : Option Addr) (n c : Nat) (b : List Int) (w : World) (h : Ag w a n c b) (hn : n ≤ 140737488351232) : Calls Tryz.prog 27 #[.slice a n c] w fun e w' => e = .returned (.agg (B8 (dref b))) ∧ Below w.heap.size w w' :=
  Di.rof_any a n c b w (h.i.inB h.nil) h.b (by rw [h.l]; exact hn)
theorem dref_len (b : List Int) : (dref b).length = 32 := Di.dref_len b
end Go.Proofs.YtalhnnjpjaeakabGreat
/- What refOf answers. -/
namespace Go.Proofs.YtalhnnjpjaeakabGreat
open Go.RowKit
set_option linter.unusedVariables false
set_option maxRecDepth 100000
/-- What refOf tells. -/
def RPost (w : World) (o : Option PR) : Ending → World → Prop := fun e w' => Below w.heap.size w w' ∧
  match o with
  | none => ∃ y : RV, y.d.length = 32 ∧ e = .returned (.tuple #[.agg y.cells.toArray, .bool false])
  | some r => ∃ y : RV, e = .returned (.tuple #[.agg y.cells.toArray, .bool true]) ∧ RefAt (Own w.heap.size w') w' y r
/-- The item's box and the result's, while refOf goes on. -/
structure Rr (w v : World) (x : V) : Prop where
  row : v.heap[w.heap.size + 1]? = some (.cells rz.cells.toArray 92)
  bx : B1 w.heap.size v x
  bel : Below w.heap.size w v
  sz : w.heap.size + 2 ≤ v.heap.size
end Go.Proofs.YtalhnnjpjaeakabGreat
/- What Unpack answers. -/
namespace Go.Proofs.YtalhnnjpjaeakabGreat.Ni
open Go.RowKit
set_option linter.unusedVariables false
end Go.Proofs.YtalhnnjpjaeakabGreat.Ni

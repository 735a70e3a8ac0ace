/- Nodes and their bytes, back and forth, as plain functions: what is written is read as it was; what is read is written as the same bytes. -/
import Derived.Test.YtalhnnjpjaeakabGreatG16
import Derived.Test.YtalhnnjpjaeakabGreatG15
import Derived.Deep.RegionHeld3
namespace Go.Proofs.YtalhnnjpjaeakabGreat
open Ni (unpP packP rightP)
set_option linter.unusedVariables false
/-- An item that may stand in D lists. -/
def Ok (D : Nat) (t : T) : Prop := ∀ d w, d ≤ D → w + (enc t).length ≤ 16777215 → (wk t d w).2 = 0 ∧ (wk t d w).1 ≤ w + (enc t).length
theorem Ok.mono {D E : Nat} {t : T} (h : Ok D t) (he : E ≤ D) : Ok E t := fun d w hd hw => h d w (by omega) hw
end Go.Proofs.YtalhnnjpjaeakabGreat
/- What is written of a right node is read as that node; what is read is right, and is written as the same bytes; how long a branch's bytes are. -/
namespace Go.Proofs.YtalhnnjpjaeakabGreat
open Ni (unpP packP rightP)
set_option linter.unusedVariables false
/-- What Encode tells of a right node. -/
def NE (n : PN) : List Int := enc (itemP n)
end Go.Proofs.YtalhnnjpjaeakabGreat
/- Steps through a region whose order is drawn, while something holds of the world: what yields wherever it holds, a call by its contract. -/
namespace Go.Proofs.YtalhnnjpjaeakabGreat
open Go.RowKit
set_option linter.unusedVariables false
set_option maxRecDepth 100000
section
variable {P : Program} {md : Region.Mode} {ops : Array Oper} {Q : Exit → Act → World → Prop} {S : World → Prop} {fuel : Nat} {listed : Array Bool} {a : Act} {w : World}
end
section
variable {a : Act} {w : World}
end
theorem below_go {w0 w w' : World} (h : Below w0.heap.size w0 w) (hb : Below w.heap.size w w') : Below w0.heap.size w0 w' := h.trans (hb.mono h.size)
theorem ag_nil (w : World) : Ag w none 0 0 [] := ⟨.inl ⟨rfl, rfl⟩, fun _ => ⟨rfl, rfl⟩, rfl, fun x hx => by cases hx⟩
end Go.Proofs.YtalhnnjpjaeakabGreat

/- Steps through a region whose order is drawn, while something holds of the world: what yields wherever it holds, a call by its contract. -/
import Derived.Test.YtmaajddofmahpaaG11
import Derived.Deep.RegionHeld3
namespace Go.Proofs.Ytmaajddofmahpaa
open Go.RowKit
set_option linter.unusedVariables false
set_option maxRecDepth 100000
section
variable {P : Program} {md : Region.Mode} {ops : Array Oper} {Q : Exit → Act → World → Prop} {S : World → Prop} {fuel : Nat} {listed : Array Bool} {a : Act} {w : World}
end
section
variable {a : Act} {w : World}
end
theorem below_go {w0 w w' : World} (h : Below w0.heap.size w0 w) (hb : Below w.heap.size w w') : Below w0.heap.size w0 w' := h.trans (hb.mono h.size)
theorem below_cell {w w' : World} (hb : Below w.heap.size w w') {g o : Nat} {v : Value} (h : w.cell? ⟨g, o, none⟩ = some v) : w'.cell? ⟨g, o, none⟩ = some v := (hb.cell (p := ⟨g, o, none⟩) (block_lt_of_cell h)).trans h
end Go.Proofs.Ytmaajddofmahpaa
/- A box that holds an item. -/
namespace Go.Proofs.Ytmaajddofmahpaa
open Go.RowKit
set_option linter.unusedVariables false
/-- A box that holds an item. -/
structure B1 (g : Nat) (v : World) (y : V) : Prop where
  c0 : v.cell? ⟨g, 0, none⟩ = some (.bool y.l)
  c1 : v.cell? ⟨g, 1, none⟩ = some (.slice y.ba y.bn y.bc)
  c2 : v.cell? ⟨g, 2, none⟩ = some (.slice y.ia y.m y.ic)
theorem below_new (w : World) (o : Obj) : Below w.heap.size w (w.alloc o) := (Below.refl _ _).alloc (Nat.le_refl _) _
theorem encP_yes {t : T} (h : (mP t).2 = 0) : encP t = (enc t, 0) := by unfold encP; rw [if_pos h]
end Go.Proofs.Ytmaajddofmahpaa

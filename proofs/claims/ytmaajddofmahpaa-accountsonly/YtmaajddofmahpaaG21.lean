/- Steps through a region whose order is drawn, while something holds of the world: what yields wherever it holds, a call by its contract. -/
import Derived.Test.YtmaajddofmahpaaG11
import Derived.Deep.RegionHeld3
namespace Go.Proofs.Ytmaajddofmahpaa
open Go.RowKit
set_option linter.unusedVariables false
set_option maxRecDepth 100000
section
variable {P : Program} {md : Region.Mode} {ops : Array Oper} {Q : Exit → Act → World → Prop} {S : World → Prop} {fuel : Nat} {listed : Array Bool} {a : Act} {w : World}
end
section
variable {a : Act} {w : World}
end
theorem below_go {w0 w w' : World} (h : Below w0.heap.size w0 w) (hb : Below w.heap.size w w') : Below w0.heap.size w0 w' := h.trans (hb.mono h.size)
theorem below_cell {w w' : World} (hb : Below w.heap.size w w') {g o : Nat} {v : Value} (h : w.cell? ⟨g, o, none⟩ = some v) : w'.cell? ⟨g, o, none⟩ = some v := (hb.cell (p := ⟨g, o, none⟩) (block_lt_of_cell h)).trans h
theorem ag_nil (w : World) : Ag w none 0 0 [] := ⟨.inl ⟨rfl, rfl⟩, fun _ => ⟨rfl, rfl⟩, rfl, fun x hx => by cases hx⟩
end Go.Proofs.Ytmaajddofmahpaa
/- A box that holds an item. -/
namespace Go.Proofs.Ytmaajddofmahpaa
open Go.RowKit
set_option linter.unusedVariables false
/-- A box that holds an item. -/
structure B1 (g : Nat) (v : World) (y : V) : Prop where
  c0 : v.cell? ⟨g, 0, none⟩ = some (.bool y.l)
  c1 : v.cell? ⟨g, 1, none⟩ = some (.slice y.ba y.bn y.bc)
  c2 : v.cell? ⟨g, 2, none⟩ = some (.slice y.ia y.m y.ic)
theorem B1.go {g : Nat} {v v' : World} {y : V} (h : B1 g v y) (hb : Below v.heap.size v v') : B1 g v' y := ⟨below_cell hb h.c0, below_cell hb h.c1, below_cell hb h.c2⟩
theorem b1_new (w : World) (y : V) : B1 w.heap.size (w.alloc (.cells #[.bool y.l, .slice y.ba y.bn y.bc, .slice y.ia y.m y.ic] 46)) y := by
  have h := heap_alloc_new w (.cells #[.bool y.l, .slice y.ba y.bn y.bc, .slice y.ia y.m y.ic] 46)
  exact ⟨by rw [cell_of_row _ _ _ _ _ _ h]; rfl, by rw [cell_of_row _ _ _ _ _ _ h]; rfl, by rw [cell_of_row _ _ _ _ _ _ h]; rfl⟩
theorem below_new (w : World) (o : Obj) : Below w.heap.size w (w.alloc o) := (Below.refl _ _).alloc (Nat.le_refl _) _
theorem encP_yes {t : T} (h : (mP t).2 = 0) : encP t = (enc t, 0) := by unfold encP; rw [if_pos h]
end Go.Proofs.Ytmaajddofmahpaa

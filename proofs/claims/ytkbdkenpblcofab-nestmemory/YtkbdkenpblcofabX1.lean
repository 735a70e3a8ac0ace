/- A box that holds an item. -/
import Derived.Test.YtkbdkenpblcofabP4
import Derived.Test.YtkbdkenpblcofabS2
namespace Go.Proofs.Ytkbdkenpblcofab
open Go.RowKit
set_option linter.unusedVariables false
/-- A box that holds an item. -/
structure B1 (g : Nat) (v : World) (y : V) : Prop where
  c0 : v.cell? ⟨g, 0, none⟩ = some (.bool y.l)
  c1 : v.cell? ⟨g, 1, none⟩ = some (.slice y.ba y.bn y.bc)
  c2 : v.cell? ⟨g, 2, none⟩ = some (.slice y.ia y.m y.ic)
theorem B1.go {g : Nat} {v v' : World} {y : V} (h : B1 g v y) (hb : Below v.heap.size v v') : B1 g v' y := ⟨below_cell hb h.c0, below_cell hb h.c1, below_cell hb h.c2⟩
theorem b1_new (w : World) (y : V) : B1 w.heap.size (w.alloc (.cells #[.bool y.l, .slice y.ba y.bn y.bc, .slice y.ia y.m y.ic] 25)) y := by
  have h := heap_alloc_new w (.cells #[.bool y.l, .slice y.ba y.bn y.bc, .slice y.ia y.m y.ic] 25)
  exact ⟨by rw [cell_of_row _ _ _ _ _ _ h]; rfl, by rw [cell_of_row _ _ _ _ _ _ h]; rfl, by rw [cell_of_row _ _ _ _ _ _ h]; rfl⟩
theorem below_new (w : World) (o : Obj) : Below w.heap.size w (w.alloc o) := (Below.refl _ _).alloc (Nat.le_refl _) _
theorem B1.alloc {g : Nat} {v : World} {y : V} (h : B1 g v y) (o : Obj) : B1 g (v.alloc o) y := h.go (below_new v o)
theorem lies_alloc {w : World} {t : T} {y : V} (h : Lies w t y) (o : Obj) : Lies (w.alloc o) t y := lies_mono (below_new w o) t y h
theorem encP_yes {t : T} (h : (mP t).2 = 0) : encP t = (enc t, 0) := by unfold encP; rw [if_pos h]
theorem encP_no {t : T} (h : (mP t).2 ≠ 0) : encP t = ([], (mP t).2) := by unfold encP; rw [if_neg h]
theorem enc_le {t : T} (h : (mP t).2 = 0) : (enc t).length ≤ 16777220 := enc_len_le (encP_ok h).2.1
end Go.Proofs.Ytkbdkenpblcofab

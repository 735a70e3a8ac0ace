/- What the document's Bytes and Key answer. -/
import Derived.Test.YtbjjboicfghldabDoorG06
namespace Go.Proofs.YtbjjboicfghldabDoor.Wo
open Go.RowKit
set_option linter.unusedVariables false
theorem OwnB.one (w : World) (z : Int) : OwnB (w.alloc (.cells #[.int .u8 z] 5)) w.heap.size (.slice (some ⟨w.heap.size, 0, none⟩) 1 1) [z] :=
  ⟨rfl, .inr ⟨w.heap.size, 1, #[.int .u8 z], rfl, Nat.le_refl _, heap_alloc_new _ _, Nat.le_refl _, by unfold maxLen; omega, rfl, rfl⟩⟩
theorem OwnB.lo {w : World} {base : Nat} {a : Option Addr} {n c : Nat} {bs : List Int} (h : OwnB w base (.slice a n c) bs) : ∀ g off, a = some ⟨g, off, none⟩ → base ≤ g := by
  intro g off e
  rcases h.2 with ⟨h1, _⟩ | ⟨k, cap, cur, hv, hb, hh, r⟩
  · injection h1 with h1; rw [h1] at e; cases e
  · injection hv with hv1; rw [hv1] at e; cases e; exact hb
def Lo (N : Nat) (a : Option Addr) : Prop := ∀ g off, a = some ⟨g, off, none⟩ → N ≤ g
theorem ag_nil (w : World) : Ag w none 0 0 [] := ⟨.inl ⟨rfl, rfl⟩, fun _ => ⟨rfl, rfl⟩, rfl, fun x hx => by cases hx⟩
theorem bek_pad {k n : Nat} (h : n < 256 ^ k) : bek (k + 1) n = 0 :: bek k n := by rw [bek_front, Nat.div_eq_of_lt h]; rfl
end Go.Proofs.YtbjjboicfghldabDoor.Wo

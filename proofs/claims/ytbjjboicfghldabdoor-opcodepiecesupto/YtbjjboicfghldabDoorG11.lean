/- Numbers turned from one kind to another; two results, three. -/
import Derived.Test.YtbjjboicfghldabDoorG10
namespace Go.Proofs.YtbjjboicfghldabDoor
open Go.RowKit
open Wo
set_option linter.unusedVariables false
set_option maxRecDepth 100000
theorem wrapI {k : IntKind} {x : Int} (h : (k = .u8 ∧ 0 ≤ x ∧ x < 256) ∨ (k = .u64 ∧ 0 ≤ x ∧ x < 18446744073709551616) ∨ (k = .i64 ∧ -9223372036854775808 ≤ x ∧ x ≤ 9223372036854775807)) : k.wrap x = x := by
  rcases h with ⟨rfl, h1, h2⟩ | ⟨rfl, h1, h2⟩ | ⟨rfl, h1, h2⟩ <;> (unfold IntKind.wrap; simp [IntKind.bits, IntKind.signed]; omega)
theorem w8 {x : Int} (h1 : 0 ≤ x) (h2 : x < 256) : IntKind.u8.wrap x = x := wrapI (.inl ⟨rfl, h1, h2⟩)
theorem wU {x : Int} (h1 : 0 ≤ x) (h2 : x < 18446744073709551616) : IntKind.u64.wrap x = x := wrapI (.inr (.inl ⟨rfl, h1, h2⟩))
theorem ol_cv {w : World} {ρ : Operand → Value} {o : Oper} (t1 t2 : TypeId) (k1 k2 : IntKind) (x : Operand) (v v' : Int) (ho : o.op = .convert t1 t2 x) (h1 : Tryd.prog.underlying t1 = some (.int k1)) (h2 : Tryd.prog.underlying t2 = some (.int k2)) (hx : ρ x = .int k1 v) (hv : k2.wrap v = v') : (execOp ρ o).run Tryd.prog w = .ok (.value (.int k2 v')) w := by
  unfold execOp
  rw [ho]
  simp only [hx, Sem.run_bind]
  simp [convert, run_underlying h1, run_underlying h2, Result.andThen, Conv.intToInt, hv]
theorem byt_lit {l : List Int} (h : (l.all fun x => decide (0 ≤ x) && decide (x < 256)) = true) : Byt l := fun x hx => by
  have := List.all_eq_true.1 h x hx
  simpa using this
/-- One cell of a row is stored. -/
theorem ol_cellrow {w : World} {ρ : Operand → Value} {o : Oper} (T : TypeId) (x y : Operand) (g j : Nat) (old : Array Value) (E : TypeId) (v : Value) {cells : Array Value} (ho : o.op = .store T x y) (hx : ρ x = .pointer (some ⟨g, j, none⟩)) (hy : ρ y = v) (h : Rw g w old E) (hi : (Tryd.prog.info? T).map (·.size) = some 1) (hj : j < old.size) (h1 : v.cells = #[v]) (h2 : v.oneCell' = true) (hcs : old.setIfInBounds j v = cells) :
    (execOp ρ o).run Tryd.prog w = .ok .skip (w.setRow g cells) := by
  have hc : w.cell? ⟨g, j, none⟩ = some old[j] := by rw [cell_of_row _ _ _ _ _ _ h]; exact Array.getElem?_eq_getElem hj
  have hf : w.frozen? ⟨g, j, none⟩ = false := frozen_of_row _ _ _ _ _ h
  have hs : (sizeOf T).run Tryd.prog w = .ok 1 w := by
    cases hq : Tryd.prog.info? T with
    | none => simp [hq] at hi
    | some z => simp [hq] at hi; simp [sizeOf, typeInfo, hq, hi]
  have hrow := setCell_eq_setRow w g j old E (0, 0) v h
  rw [hcs] at hrow
  unfold execOp
  rw [ho]
  simp only [hx, hy, Instr.storeAt, Instr.sureAddr, storeVar, h1, Sem.run_bind, Sem.run_pure, Result.andThen_ok, hs]
  go_simp
  rw [run_store _ _ _ _ _ h2]
  simp [hc, hf, hrow]
theorem own_lit {w w' : World} {g : Nat} {xs : List Int} {n : Nat} (h : New w w' g (xs.map (Value.int .u8)).toArray 5) (hn : xs.length = n) (hm : n ≤ maxLen := by unfold maxLen; omega) : OwnB w' w.heap.size (.slice (some ⟨g, 0, none⟩) n n) xs := by
  subst hn
  exact ⟨by simp, .inr ⟨g, xs.length, _, rfl, Nat.le_of_eq h.hg.symm, h.row, Nat.le_refl _, hm, by simp, by simp [List.take_of_length_le]⟩⟩
def isPu (x : Int) : Bool := decide (32 ≤ x ∧ x < 40)
theorem isPu_t {x : Int} (h : isPu x = true) : 32 ≤ x ∧ x < 40 := of_decide_eq_true h
theorem isPu_f {x : Int} (h : isPu x = false) : ¬ (32 ≤ x ∧ x < 40) := of_decide_eq_false h
end Go.Proofs.YtbjjboicfghldabDoor

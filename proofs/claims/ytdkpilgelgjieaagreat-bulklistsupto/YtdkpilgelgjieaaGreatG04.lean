/- A value put into a branch. -/
import Derived.Test.YtdkpilgelgjieaaGreatG03
set_option linter.unusedVariables false
set_option maxRecDepth 100000
namespace Go.Proofs.YtdkpilgelgjieaaGreat
open Go.RowKit
open Tr
def NoInt (cells : Array Value) : Prop := ∀ (j : Nat) (v : Value), cells[j]? = some v -> ∀ kd z, v ≠ .int kd z
structure Bs (w w' : World) (g : Nat) : Prop where
 other : ∀ k, k ≠ g -> w'.heap[k]? = w.heap[k]?
 no : ∀ o kd z, w.cell? ⟨g, o, none⟩ ≠ some (.int kd z)
theorem Rw.set {g o : Nat} {w w' : World} {cells cells' : Array Value} {T : TypeId} {v : Value} (h : Rw g w cells T) (hs : Set1 w w' g o v) (e : cells.setIfInBounds o v = cells') : Rw g w' cells' T := by
 rw [<- e, Rw, hs.hw]; exact heap_setCell_same _ _ _ _ _ _ h
theorem Rw.apart {g g' o : Nat} {w w' : World} {cells : Array Value} {T : TypeId} {v : Value} (h : Rw g w cells T) (hs : Set1 w w' g' o v) (e : g ≠ g') : Rw g w' cells T := (hs.other e).trans h
theorem Zcp {ρ : Operand -> Value} {w : World} {o : Oper} (T : TypeId) (x y : Operand) (g j : Nat) (cells : Array Value) (E : TypeId) (v : Value) (h : Rw g w cells E) (ho : o.op = .store T x y) (hx : ρ x = .pointer (some ⟨g, j, none⟩)) (hy : ρ y = v) (hj : j < cells.size) (h1 : v.cells = #[v]) (h2 : v.oneCell' = true) (hi : (Tryz.prog.info? T).map (·.size) = some 1) :
  (execOp ρ o).run Tryz.prog w = .ok .skip (w.setCell ⟨g, j, none⟩ v) := by
 have hc : w.cell? ⟨g, j, none⟩ = some cells[j] := by rw [cell_of_row _ _ _ _ _ _ h]; exact Array.getElem?_eq_getElem hj
 have hf : w.frozen? ⟨g, j, none⟩ = false := frozen_of_row _ _ _ _ _ h
 have hs : (sizeOf T).run Tryz.prog w = .ok 1 w := by
  cases hq : Tryz.prog.info? T with
  | none => simp [hq] at hi
  | some z => simp [hq] at hi; simp [sizeOf, typeInfo, hq, hi]
 unfold execOp
 rw [ho]
 simp only [hx, hy, Instr.storeAt, Instr.sureAddr, storeVar, h1, Sem.run_bind, Sem.run_pure, Result.andThen_ok, hs]
 go_simp
 rw [run_store _ _ _ _ _ h2]
 simp [hc, hf]
def WS (t : Tr) : Prop := ∀ {K : Nat -> Prop} {w : World} {v : Value} {a : Option Addr} {n c : Nat} {q : List Int} {a' : Option Addr} {n' c' : Nat} {x : List Int} {B : Nat}, Ok B t -> B <= 64 -> q.length <= B -> Nb q -> TA K w t v -> Sk K w a n c q -> Sk K w a' n' c' x -> n' <= 256 -> (∀ b, w.heap.size <= b -> K b) -> MC "pergola/trie.with" v #[.slice a n c, .slice a' n' c'] w (TRs K w (put t q x))
end Go.Proofs.YtdkpilgelgjieaaGreat
namespace Go.Proofs.YtdkpilgelgjieaaGreat
open Go.RowKit
open Tr
def bra (vs : Nat -> Value) : Array Value := #[vs 0, vs 1, vs 2, vs 3, vs 4, vs 5, vs 6, vs 7, vs 8, vs 9, vs 10, vs 11, vs 12, vs 13, vs 14, vs 15]
theorem Zyy {n : Nat} (h : n < 16) : IntKind.u8.wrap (n : Int) = n := by unfold IntKind.wrap; simp [IntKind.bits, IntKind.signed]; omega
def DS (t : Tr) : Prop := ∀ {K : Nat -> Prop} {w : World} {v : Value} {a : Option Addr} {n c : Nat} {q : List Int} {B : Nat}, Ok B t -> B <= 64 -> Nb q -> Tr.get t q ≠ [] -> TA K w t v -> Sk K w a n c q -> (∀ b, w.heap.size <= b -> K b) -> MC "pergola/trie.without" v #[.slice a n c] w (TRs K w (del t q))
end Go.Proofs.YtdkpilgelgjieaaGreat

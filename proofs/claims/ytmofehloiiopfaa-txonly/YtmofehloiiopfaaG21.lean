/- Rows of items of one's own that hang on chosen blocks alone: an item more, a box written. -/
import Derived.Test.YtmofehloiiopfaaG20
import Derived.Test.YtmofehloiiopfaaG06
namespace Go.Proofs.Ytmofehloiiopfaa
open Go.RowKit
set_option linter.unusedVariables false
set_option maxRecDepth 100000
/-- A thing and its value that stay as long as those blocks stay of which P speaks. -/
def KL (P : Nat → Prop) (w : World) (t : T) (y : V) : Prop := ∀ w', (∀ b, P b → b < w.heap.size → w'.heap[b]? = w.heap[b]?) → Lies w' t y
section
variable {P Q : Nat → Prop} {w w' w1 w2 w3 : World} {t : T} {y : V} {ts : List T} {ys : List V} {v : Value} {N g : Nat}
def AllK (P : Nat → Prop) (w : World) : List T → List V → Prop
  | [], [] => True
  | t :: ts, y :: ys => KL P w t y ∧ AllK P w ts ys
  | _, _ => False
/-- Things and their values, one by one, wherever they lie. -/
def AllY (w : World) : List T → List V → Prop
  | [], [] => True
  | t :: ts, y :: ys => Lies w t y ∧ AllY w ts ys
  | _, _ => False
theorem rowK_lies {all : List V} (hc : ∀ j u, (all.flatMap V.cells)[j]? = some u → w.cell? ((⟨g, 0, none⟩ : Addr).add j) = some u) :
    ∀ (ts : List T) (ys pre : List V), all = pre ++ ys → AllY w ts ys → LiesAll w ts (some ⟨g, 0, none⟩) pre.length
  | [], [], pre, _, _ => liesAll_nil
  | t :: ts, y :: ys, pre, e, h => by
    have hr := rowK_lies hc ts ys (pre ++ [y]) (by rw [e]; simp) h.2
    rw [List.length_append] at hr
    refine liesAll_cons.2 ⟨⟨g, 0, y, rfl, ?_, ?_, ?_, h.1⟩, hr⟩
    · have := hc (pre.length * 3 + 0) (.bool y.l) (by rw [e]; exact flat_get pre y ys 0 _ rfl)
      rw [addr_add] at this
      simpa using this
    · have := hc (pre.length * 3 + 1) (.slice y.ba y.bn y.bc) (by rw [e]; exact flat_get pre y ys 1 _ rfl)
      rw [addr_add] at this
      rw [show 0 + pre.length * 3 + 1 = 0 + (pre.length * 3 + 1) from by omega]
      exact this
    · have := hc (pre.length * 3 + 2) (.slice y.ia y.m y.ic) (by rw [e]; exact flat_get pre y ys 2 _ rfl)
      rw [addr_add] at this
      rw [show 0 + pre.length * 3 + 2 = 0 + (pre.length * 3 + 2) from by omega]
      exact this
/-- A row of one's own, from block N on, that holds items; nothing of them lies in blocks of which P does not speak. -/
structure IL (P : Nat → Prop) (N : Nat) (w : World) (v : Value) (ts : List T) : Prop where
  ex : ∃ ys, OwnI w N v ys ∧ AllK (fun b => P b ∧ v.ownBlock ≠ some b) w ts ys
  own : ∀ g, v.ownBlock = some g → P g
/-- What an append onto a row leaves. -/
structure Gr (it : Value) (w w' : World) : Prop where
  os : w'.os = w.os
  tape : w'.tape = w.tape
  output : w'.output = w.output
  size : w.heap.size ≤ w'.heap.size
  block : ∀ b, b < w.heap.size → it.ownBlock ≠ some b → w'.heap[b]? = w.heap[b]?
end
def RSn (n : Nat) (w : World) : Value → World → Prop := fun u w' => (∃ x c, u = .slice x (nb n) c ∧ Ag w' x (nb n) c (be n) ∧ Wo.Lo w.heap.size x) ∧ Bl w w'
/-- An item that is told: it hangs on new blocks alone. -/
def RKi (w : World) (t : T) : Value → World → Prop := fun u w' => (∃ y : V, u = .agg (IV y) ∧ KL (fun b => w.heap.size ≤ b) w' t y) ∧ Bl w w'
end Go.Proofs.Ytmofehloiiopfaa
/- What the document's functions of transactions tell: a word's item. -/
namespace Go.Proofs.Ytmofehloiiopfaa
open Go.RowKit
open Di (dref)
set_option linter.unusedVariables false
set_option maxRecDepth 100000
end Go.Proofs.Ytmofehloiiopfaa
/- The document's list of a transaction's items as it is written: what holds between two of them. -/
namespace Go.Proofs.Ytmofehloiiopfaa
open Go.RowKit
set_option linter.unusedVariables false
set_option maxRecDepth 100000
theorem Rw.put1 {g o : Nat} {w w' : World} {cells : Array Value} {T : TypeId} {u : Value} (h : Rw g w cells T) (hs : Set1 w w' g o u) : Rw g w' (cells.setIfInBounds o u) T := by
  unfold Rw at *
  rw [hs.hw, heap_setCell_same w g o _ T u h]
/-- The transaction's box, the list's box, the list so far. -/
structure Bs (w0 : World) (y : TV) (gt g3 : Nat) (ts : List T) (v : World) : Prop where
  tx : Rw gt v y.cells 26
  ex : ∃ it, Rw g3 v #[.bool true, .slice none 0 0, it] 45 ∧ IL (fun b => b ≠ gt ∧ b ≠ g3) w0.heap.size v it ts
  bel : Bl w0 v
  lt : w0.heap.size ≤ gt ∧ gt < g3
/-- The box of a list within, and that list so far: all in new memory. -/
structure Bt (u : World) (g4 : Nat) (us : List T) (v : World) : Prop where
  ex : ∃ it, Rw g4 v #[.bool true, .slice none 0 0, it] 45 ∧ IL (fun b => g4 < b) (g4 + 1) v it us
  bel : Bl u v
  eq : g4 = u.heap.size
def tws (l : List Nat) : List T := l.map fun n => tx (be n)
theorem tws_take {l : List Nat} {i n : Nat} (h : l[i]? = some n) : tws (l.take (i + 1)) = tws (l.take i) ++ [tx (be n)] := by
  unfold tws
  rw [List.take_add_one, h, List.map_append]
  rfl
theorem tws_len {l : List Nat} {i : Nat} (h : i ≤ l.length) : (tws (l.take i)).length = i := by
  unfold tws
  rw [List.length_map, List.length_take]
  omega
def lsX (y : TV) : List T := ((([tx (be y.t.f), tx (be y.t.n), tx (be y.t.g), tx (be y.t.p), tx (be y.t.o), tx (be y.t.v)] ++ [T.mk true [] (tws y.t.i)]) ++ [tx (mkB y.t.m)]) ++ [tx y.t.c])
end Go.Proofs.Ytmofehloiiopfaa

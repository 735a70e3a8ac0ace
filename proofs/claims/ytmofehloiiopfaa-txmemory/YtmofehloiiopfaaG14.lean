/- What the method Write of digest.Hash does, for every Hash and all bytes (nothing in the way of a sum beyond an int): it has taken them behind all others; nothing but the Hash is changed. -/
import Derived.Test.YtmofehloiiopfaaG12
import Derived.Test.YtmofehloiiopfaaG13
import Derived.Deep.DrawnRows
import Derived.Deep.DeepCutAuto
namespace Go.Proofs.Ytmofehloiiopfaa.Di
set_option maxRecDepth 100000
open Go.RowKit
set_option linter.unusedVariables false
/-- Nothing but block g has turned. -/
structure Touch (g : Nat) (w w' : World) : Prop where
  os : w'.os = w.os
  tape : w'.tape = w.tape
  output : w'.output = w.output
  size : w.heap.size ≤ w'.heap.size
  block : ∀ k, k < w.heap.size → k ≠ g → w'.heap[k]? = w.heap[k]?
theorem Touch.refl (g : Nat) (w : World) : Touch g w w := ⟨rfl, rfl, rfl, Nat.le_refl _, fun _ _ _ => rfl⟩
theorem Touch.trans {g : Nat} {a b c : World} (h : Touch g a b) (k : Touch g b c) : Touch g a c :=
  ⟨k.os.trans h.os, k.tape.trans h.tape, k.output.trans h.output, Nat.le_trans h.size k.size, fun i hi hg => (k.block i (Nat.lt_of_lt_of_le hi h.size) hg).trans (h.block i hi hg)⟩
theorem Touch.of_below {g : Nat} {a b : World} (h : Below a.heap.size a b) : Touch g a b := ⟨h.os, h.tape, h.output, h.size, fun i hi _ => h.block i hi⟩
theorem Touch.setCell (g : Nat) (w : World) (o : Nat) (v : Value) : Touch g w (w.setCell ⟨g, o, none⟩ v) := ⟨rfl, rfl, rfl, by simp, fun k _ hk => heap_setCell_other _ _ _ _ hk⟩
theorem Touch.setRow (g : Nat) (w : World) (C : Array Value) : Touch g w (w.setRow g C) := ⟨rfl, rfl, rfl, by simp, fun k _ hk => setRow_other _ _ _ _ hk⟩
/-- The state behind i pieces of a text. -/
def stP (bs : List Int) : Nat → S4
  | 0 => s0
  | i + 1 => mix (stP bs i) (words ((bs.drop (32 * i)).take 32))
/-- What a Hash knows of the bytes that it has taken. -/
structure Inv (all : List Int) (s : S4) (tl : List Int) (n : Nat) : Prop where
  hn : n = all.length
  hs : s = stP all (n / 32)
  hl : tl.length = 32
  ht : tl.take (n % 32) = all.drop (32 * (n / 32))
  hb : ∀ x ∈ tl, 0 ≤ x ∧ x < 256
/-- .. between two pieces. -/
structure Mid (cur : List Int) (s : S4) (tl : List Int) : Prop where
  hm : cur.length % 32 = 0
  hs : s = stP cur (cur.length / 32)
  hl : tl.length = 32
  hb : ∀ x ∈ tl, 0 ≤ x ∧ x < 256
attribute [local go_sem ↓] load23_fold Go.wp_at_zero Go.wp_at_succ
/-- Write's world: the Hash, the bytes that are handed in. -/
structure Ws (g gb off : Nat) (w0 w : World) (bs : List Int) (s : S4) (tl : List Int) (n : Nat) : Prop where
  hg : w.heap[g]? = some (.cells (HC s tl n) 78)
  t : Touch g w0 w
  hc : ∀ j, j < bs.length → w.cell? ⟨gb, off + j, none⟩ = some (.int .u8 (bs.getD j 0))
theorem wpl_copy {w : World} {ops : Array Oper} {rest : List Oper} {o : Oper} {a : Act} {Q : Exit → Act → World → Prop} (hgd : o.guard = none) (d x : Operand)
    (ho : o.op = .call { callee := .builtin .copy, args := #[d, x], argTypes := #[24, 24] }) (v u : Value) (hd : a.eval d = v) (hx : a.eval x = u) {v' : Value} {w' : World}
    (hr : (Builtin.copy_ #[24, 24] o.type #[v, u]).run Try.prog w = .ok v' w') (h : wpList Try.prog ops Q rest (a.put o.dst v') w') : wpList Try.prog ops Q (o :: rest) a w := by
  refine wpList_plain hgd fun K hK => ?_
  unfold Oper.wp
  simp [execOp, ho, resolve, invoke, builtin, hd, hx, hr, Result.andThen]
  exact hK _ _ h
end Go.Proofs.Ytmofehloiiopfaa.Di
/- The plain law beneath: what Sum tells of a Hash that has taken some bytes is the document's digest of them, whatever they are. -/
namespace Go.Proofs.Ytmofehloiiopfaa.Di
set_option maxRecDepth 100000
open Go.RowKit
set_option linter.unusedVariables false
end Go.Proofs.Ytmofehloiiopfaa.Di
/- What digest.Of answers: the document's digest, for all bytes; and Write of whatever bytes, Sum of whatever Hash, in the document's words. -/
namespace Go.Proofs.Ytmofehloiiopfaa.Di
set_option maxRecDepth 100000
open Go.RowKit
set_option linter.unusedVariables false
/-- Bytes that are handed to Write: none, or a row of cells that is no part of block g. -/
def In2 (g : Nat) (w : World) (a : Option Addr) (len cap : Nat) (bs : List Int) : Prop :=
  (len = 0 ∧ bs = []) ∨ ∃ gb off, a = some ⟨gb, off, none⟩ ∧ bs.length = len ∧ 0 < len ∧ len ≤ cap ∧ cap ≤ maxLen ∧ gb ≠ g ∧ ∀ j, j < bs.length → w.cell? ⟨gb, off + j, none⟩ = some (.int .u8 (bs.getD j 0))
/-- The document's digest of some bytes. -/
def dref (bs : List Int) : List Int := dig (stOf (padded bs) ((padded bs).length / 32))
/-- Bytes in memory, wherever. -/
def In0 (w : World) (a : Option Addr) (len cap : Nat) (bs : List Int) : Prop :=
  (len = 0 ∧ bs = []) ∨ ∃ gb off, a = some ⟨gb, off, none⟩ ∧ bs.length = len ∧ 0 < len ∧ len ≤ cap ∧ cap ≤ maxLen ∧ ∀ j, j < bs.length → w.cell? ⟨gb, off + j, none⟩ = some (.int .u8 (bs.getD j 0))
theorem Touch.below {g N : Nat} {w0 w w' : World} (h : Below N w0 w) (t : Touch g w w') (hN : N ≤ g) (hs : N ≤ w.heap.size) : Below N w0 w' :=
  h.trans ⟨t.os, t.tape, t.output, t.size, fun k hk => t.block k (by omega) (by omega)⟩
end Go.Proofs.Ytmofehloiiopfaa.Di

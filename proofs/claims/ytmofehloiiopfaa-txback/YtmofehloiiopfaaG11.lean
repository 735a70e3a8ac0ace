/- Ranges over functions, yields, walks over maps, for the walk by environments. -/
import Derived.Test.YtmofehloiiopfaaG10
import Derived.RangeFuncNested
import Derived.Maps.RangeRun
import Derived.Deep.WholeRow
import Derived.Test.YtmofehloiiopfaaRows
import Derived.WalkKit
import Derived.WalkSpells
import Derived.WalkLawsBesides
import Derived.BigQuiet
import Derived.Deep.QuietTactic
import Derived.Handy
import Derived.Deep.RegionHeld3
namespace Go.Proofs.Ytmofehloiiopfaa
open Go.RowKit
open Go.ChangeMaps (setBlock)
set_option linter.unusedVariables false
set_option maxRecDepth 100000
section
variable {r : Option Nat} {m : Nat} {P : Program} {ds : List Deferred} {n : Nat} {Q : Exit → Act → World → Prop} {env : Env} {w w' : World} {ops : Array Oper} {l : List Oper} {o : Oper}
end
section
variable {P : Program} {ρ : Operand → Value} {w w' : World} {o : Oper}
end
end Go.Proofs.Ytmofehloiiopfaa
/- What one round, the xor of four words, and the eight rounds of package digest (functions round, xor, stir) answer, for every input; and the plain functions that say it. -/
namespace Go.Proofs.Ytmofehloiiopfaa.Di
set_option maxRecDepth 100000
open Go.RowKit
/-- Four words. -/
structure S4 where
  a : Int
  b : Int
  c : Int
  d : Int
def wr (x : Int) : Int := IntKind.u64.wrap x
def rotl (x k : Int) : Int := bits BinOp.or IntKind.u64 (IntKind.u64.wrap (x * 2 ^ k.toNat)) (x / 2 ^ (64 - k).toNat)
def xr (x y : Int) : Int := bits BinOp.xor IntKind.u64 x y
def rnd (s : S4) (x : Int) : S4 :=
  let a := wr (s.a + wr (s.b + x))
  let d := rotl (xr s.d a) 32
  let c := wr (s.c + d)
  let b := rotl (xr s.b c) 24
  let a := wr (a + b)
  let d := rotl (xr d a) 16
  let c := wr (c + d)
  let b := rotl (xr b c) 63
  ⟨b, c, d, a⟩
def xor4 (s m : S4) : S4 := ⟨xr s.a m.a, xr s.b m.b, xr s.c m.c, xr s.d m.d⟩
def kk : Int := 11400714819323198485
def stir (s m : S4) : S4 :=
  let s := rnd s (wr (m.a + wr (1 * kk)))
  let s := rnd s (wr (m.b + wr (2 * kk)))
  let s := rnd s (wr (m.c + wr (3 * kk)))
  let s := rnd s (wr (m.d + wr (4 * kk)))
  let s := rnd s (wr (m.a + wr (5 * kk)))
  let s := rnd s (wr (m.b + wr (6 * kk)))
  let s := rnd s (wr (m.c + wr (7 * kk)))
  rnd s (wr (m.d + wr (8 * kk)))
def mix (s m : S4) : S4 := xor4 (stir (xor4 s m) m) s
/-- Three new blocks of four words each, from block n on; what was there ahead of them is as it was. -/
structure Rows3 (n : Nat) (w0 w : World) (r2 r3 r4 : Array Value) : Prop where
  h2 : w.heap[n]? = some (.cells r2 75)
  h3 : w.heap[n + 1]? = some (.cells r3 75)
  h4 : w.heap[n + 1 + 1]? = some (.cells r4 75)
  bel : Below n w0 w
theorem Hid.mk {p : Prop} (h : p) : Hid p := h
theorem lt_of_get {α : Type} {xs : Array α} {i : Nat} {x : α} (h : xs[i]? = some x) : i < xs.size := (Array.getElem?_eq_some_iff.1 h).1
theorem cells4 {w : World} {g t : Nat} {x0 x1 x2 x3 : Value} (h : w.heap[g]? = some (.cells #[x0, x1, x2, x3] t)) :
    w.cell? ⟨g, 0, none⟩ = some x0 ∧ w.cell? ⟨g, 1, none⟩ = some x1 ∧ w.cell? ⟨g, 2, none⟩ = some x2 ∧ w.cell? ⟨g, 3, none⟩ = some x3 ∧ ∀ o, w.frozen? ⟨g, o, none⟩ = false :=
  ⟨by simp [World.cell?, h], by simp [World.cell?, h], by simp [World.cell?, h], by simp [World.cell?, h], fun o => frozen_of_row w g o _ t h⟩
theorem Below.row {W w1 : World} (hb : Below W.heap.size W w1) {g : Nat} {o : Obj} (h : W.heap[g]? = some o) : w1.heap[g]? = some o := (hb.block g (lt_of_get h)).trans h
end Go.Proofs.Ytmofehloiiopfaa.Di
/- What digest.mix answers: the mixing of one piece's four words into the state, for every input. -/
namespace Go.Proofs.Ytmofehloiiopfaa.Di
set_option maxRecDepth 100000
open Go.RowKit
end Go.Proofs.Ytmofehloiiopfaa.Di

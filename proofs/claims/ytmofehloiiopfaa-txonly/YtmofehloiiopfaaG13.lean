/- What the document's rot, word and Padded (pergolaref01) answer, for every input of at most 2^47 - 4096 bytes. -/
import Derived.Test.YtmofehloiiopfaaG12
import Derived.Laws.CopyOwn
import Derived.Laws.AppendOwnNone
import Derived.Deep.RegionHeld3
namespace Go.Proofs.Ytmofehloiiopfaa.Di
set_option maxRecDepth 100000
open Go.RowKit
/-- The word of k bytes from a place on. -/
def wd (bs : List Int) (at_ : Nat) : Nat → Int
  | 0 => 0
  | k + 1 => or8 (wd bs at_ k) (bs.getD (at_ + k) 0)
theorem B8_one2 (bs : List Int) : ∀ v ∈ bs.map (Value.int .u8), v.oneCell' = true := by
  intro v hv
  obtain ⟨x, _, rfl⟩ := List.mem_map.1 hv
  rfl
/-- A slice of bytes of the call's own, from block 'base' on. -/
def OwnB (w : World) (base : Nat) (v : Value) (bs : List Int) : Prop := w.ownsRow base 5 1 v bs.length (bs.map (Value.int .u8))
/-- Bytes that came in: nil, or a row of cells. -/
def InB (w : World) (a : Option Addr) (len cap : Nat) (bs : List Int) : Prop :=
  (a = none ∧ len = 0 ∧ cap = 0 ∧ bs = []) ∨ ∃ ad, a = some ad ∧ bs.length = len ∧ ∀ j u, (bs.map (Value.int .u8))[j]? = some u → w.cell? (ad.add j) = some u
def zc (n : Nat) : Nat := (55 - n % 32) % 32
def len8 (n : Nat) (k : Nat) : List Int := (List.range k).map fun i => (n : Int) / 2 ^ (56 - 8 * i) % 256
def padded (bs : List Int) : List Int := bs ++ [128] ++ List.replicate (zc bs.length) 0 ++ len8 bs.length 8
def lenOf : Value → Nat | .slice _ n _ => n | _ => 0
end Go.Proofs.Ytmofehloiiopfaa.Di
/- What the document's digest (pergolaref01.Of) answers: the pieces of the padded text mixed in, one behind the other, for every text of at most 2^47 - 4096 bytes. -/
namespace Go.Proofs.Ytmofehloiiopfaa.Di
set_option maxRecDepth 100000
open Go.RowKit
/-- The words of the piece that begins at a place. -/
def wordsAt (bs : List Int) (p : Nat) : S4 := ⟨wd bs p 8, wd bs (p + 8) 8, wd bs (p + 16) 8, wd bs (p + 24) 8⟩
def s0 : S4 := ⟨kk, wr (2 * kk), wr (3 * kk), wr (4 * kk)⟩
/-- The state behind i pieces. -/
def stOf (bs : List Int) : Nat → S4
  | 0 => s0
  | i + 1 => mix (stOf bs i) (wordsAt bs (32 * i))
def mAt (m : S4) (k : Nat) : Int := if k % 4 = 0 then m.a else if k % 4 = 1 then m.b else if k % 4 = 2 then m.c else m.d
/-- The words behind k rounds. -/
def rk (s m : S4) : Nat → S4
  | 0 => xor4 s m
  | k + 1 => rnd (rk s m k) (wr (mAt m k + wr ((k + 1 : Nat) * kk)))
/-- What stands while the pieces are mixed: the result's block, the padded text's cells, the state's row. -/
structure OfW (N gt gs : Nat) (w0 w : World) (ps : List Int) (S : S4) : Prop where
  h0 : w.heap[N]? = some (.cells (B8 (List.replicate 32 0)) 56)
  ht : ∀ j, j < ps.length → w.cell? ⟨gt, j, none⟩ = some (.int .u8 (ps.getD j 0))
  hs : w.heap[gs]? = some (.cells (V4 S) 22)
  gtl : gt < w.heap.size
  gsl : N < gs
  bel : Below N w0 w
structure OfM (N gt gs gp gm : Nat) (w0 w : World) (ps : List Int) (S M : S4) : Prop where
  f : OfW N gt gs w0 w ps S
  hm : w.heap[gm]? = some (.cells (V4 M) 22)
  p0 : w.cell? ⟨gp, 0, none⟩ = some (.int .u64 S.a)
  p1 : w.cell? ⟨gp, 1, none⟩ = some (.int .u64 S.b)
  p2 : w.cell? ⟨gp, 2, none⟩ = some (.int .u64 S.c)
  p3 : w.cell? ⟨gp, 3, none⟩ = some (.int .u64 S.d)
theorem gen_w {V : World} {p q : World → Prop} (F : q V) (h : ∀ v, q v → p v) : p V := h V F
def kx (k : Nat) : Int := wr ((k : Int) * kk)
structure Ex (N gs go : Nat) (w0 w : World) (sa sb sc sd : Int) (ds : List Int) : Prop where
  h0 : w.heap[N]? = some (.cells (B8 (List.replicate 32 0)) 56)
  hs : w.heap[gs]? = some (.cells (V4 ⟨sa, sb, sc, sd⟩) 22)
  ho : w.heap[go]? = some (.cells (B8 ds) 56)
  bel : Below N w0 w
end Go.Proofs.Ytmofehloiiopfaa.Di
/- What digest.start answers, what Write of nothing does to a new Hash, and what digest.Of answers of nothing. -/
namespace Go.Proofs.Ytmofehloiiopfaa.Di
set_option maxRecDepth 100000
open Go.RowKit
/-- Of's blocks: the result, the Hash. -/
structure OfH (N g : Nat) (w0 w : World) (s : S4) (tl : List Int) (n : Nat) : Prop where
  h0 : w.heap[N]? = some (.cells (B8 (List.replicate 32 0)) 56)
  hg : w.heap[g]? = some (.cells (HC s tl n) 78)
  bel : Below N w0 w
  lt : N < g
end Go.Proofs.Ytmofehloiiopfaa.Di

/- Operations, the pieces of codes, codes as text: plain functions. -/
import Derived.Test.YtbjjboicfghldaaDoorG03
namespace Go.Proofs.YtbjjboicfghldaaDoor
open Wo
set_option linter.unusedVariables false
set_option maxRecDepth 100000
/-- Bytes. -/
def Byt (l : List Int) : Prop := ∀ x ∈ l, 0 ≤ x ∧ x < 256
/-- A row of the table. -/
structure Rd where
  op : Nat
  wd : List Int
  bh : Nat
  tk : Nat
  gv : Nat
  gs : Nat
def tbl : List Rd := [
  ⟨0, [115, 116, 111, 112], 0, 0, 0, 0⟩,
  ⟨1, [97, 100, 100], 0, 2, 1, 1⟩,
  ⟨2, [115, 117, 98], 0, 2, 1, 1⟩,
  ⟨3, [109, 117, 108], 0, 2, 1, 2⟩,
  ⟨4, [100, 105, 118], 0, 2, 1, 2⟩,
  ⟨5, [109, 111, 100], 0, 2, 1, 2⟩,
  ⟨6, [108, 101, 115, 115], 0, 2, 1, 1⟩,
  ⟨7, [101, 113, 117, 97, 108], 0, 2, 1, 1⟩,
  ⟨8, [110, 111, 116], 0, 1, 1, 1⟩,
  ⟨32, [112, 117, 115, 104], 1, 0, 1, 1⟩,
  ⟨48, [112, 111, 112], 0, 1, 0, 1⟩,
  ⟨49, [100, 117, 112], 1, 0, 1, 1⟩,
  ⟨50, [115, 119, 97, 112], 1, 0, 0, 1⟩,
  ⟨64, [106, 117, 109, 112], 0, 1, 0, 3⟩,
  ⟨65, [106, 117, 109, 112, 105, 102], 0, 2, 0, 3⟩,
  ⟨66, [109, 97, 114, 107], 0, 0, 0, 1⟩,
  ⟨80, [108, 111, 97, 100], 0, 1, 1, 10⟩,
  ⟨81, [115, 116, 111, 114, 101], 0, 2, 0, 20⟩,
  ⟨96, [115, 101, 108, 102], 0, 0, 1, 1⟩,
  ⟨97, [99, 97, 108, 108, 101, 114], 0, 0, 1, 1⟩,
  ⟨98, [118, 97, 108, 117, 101], 0, 0, 1, 1⟩,
  ⟨99, [105, 110, 112, 117, 116], 0, 1, 1, 1⟩,
  ⟨100, [98, 97, 108, 97, 110, 99, 101], 0, 1, 1, 8⟩,
  ⟨101, [103, 97, 115], 0, 0, 1, 1⟩,
  ⟨102, [110, 117, 109, 98, 101, 114], 0, 0, 1, 1⟩,
  ⟨112, [99, 97, 108, 108], 0, 4, 1, 40⟩,
  ⟨113, [114, 101, 115, 117, 108, 116], 0, 0, 1, 1⟩,
  ⟨128, [114, 101, 116, 117, 114, 110], 0, 1, 0, 0⟩,
  ⟨129, [114, 101, 118, 101, 114, 116], 0, 1, 0, 0⟩]
def pushW : List Int := [112, 117, 115, 104]
def byteW : List Int := [98, 121, 116, 101]
/-- What an operation is. -/
structure Nf where
  wd : List Int
  bh : Nat
  tk : Nat
  gv : Nat
  gs : Nat
def nf0 : Nf := ⟨[], 0, 0, 0, 0⟩
/-- What a byte is. -/
def ofP (x : Int) : Option Nf := if 32 ≤ x ∧ x < 40 then some ⟨pushW, (x - 31).toNat, 0, 1, 1⟩ else (tbl.find? fun r => (r.op : Int) == x).map fun r => ⟨r.wd, r.bh, r.tk, r.gv, r.gs⟩
/-- How many bytes the piece has that bytes begin with. -/
def szP : List Int → Nat
  | [] => 1
  | x :: r => match ofP x with
    | none => 1
    | some o => if r.length < o.bh then 1 else 1 + o.bh
def isP : List Int → Bool
  | [] => false
  | x :: r => match ofP x with
    | none => false
    | some o => !decide (r.length < o.bh)
theorem szP_pos (l : List Int) : 1 ≤ szP l := by
  cases l with
  | nil => exact Nat.le_refl _
  | cons x r =>
    cases h : ofP x with
    | none => simp [szP, h]
    | some o => simp only [szP, h]; split <;> omega
theorem szP_le {l : List Int} (h : l ≠ []) : szP l ≤ l.length := by
  cases l with
  | nil => exact absurd rfl h
  | cons x r =>
    rw [List.length_cons]
    cases h : ofP x with
    | none => simp [szP, h]
    | some o => simp only [szP, h]; split <;> omega
/-- The places of marks. -/
def mkP : Nat → Nat → List Int → List Nat
  | 0, _, _ => []
  | n + 1, p, l => match l with
    | [] => []
    | x :: r => (if x = 66 then [p] else []) ++ mkP n (p + szP (x :: r)) ((x :: r).drop (szP (x :: r)))
/-- The pieces. -/
def pcs : Nat → List Int → List (List Int)
  | 0, _ => []
  | n + 1, l => match l with
    | [] => []
    | x :: r => (x :: r).take (szP (x :: r)) :: pcs n ((x :: r).drop (szP (x :: r)))
/-- How many bytes a number needs, one at least. -/
def szo (n : Nat) : Nat := max 1 (nb n)
/-- A piece's statement. -/
def wr : List Int → List Int
  | [] => []
  | x :: r => match ofP x with
    | none => byteW ++ 32 :: pr x.toNat
    | some o => if r.length < o.bh then byteW ++ 32 :: pr x.toNat else if o.bh = 0 then o.wd else if o.bh ≠ szo (vl r) then (pushW ++ pr o.bh) ++ 32 :: pr (vl r) else o.wd ++ 32 :: pr (vl r)
def jnP : List (List Int) → List Int
  | [] => []
  | x :: r => x ++ (r.map (32 :: ·)).flatten
/-- A code's text. -/
def prP (l : List Int) : List Int × Int := if 256 < l.length then ([], 142) else (jnP ((pcs l.length l).map wr), 0)
def bl (c : Int) : Bool := c == 32 || c == 10
/-- How many bytes are blanks, or none. -/
def rn (l : List Int) (b : Bool) : Nat := (l.takeWhile fun c => bl c == b).length
def nx1 (l : List Int) : List Int := l.drop (rn l true)
def nxW (l : List Int) : List Int := (nx1 l).take (rn (nx1 l) false)
def nxR (l : List Int) : List Int := (nx1 l).drop (rn (nx1 l) false)
/-- What a statement's first word says. -/
def bgP (w : List Int) : Option (List Int × Nat) :=
  if w = pushW then some ([], 8) else if w = byteW then some ([], 1) else
    match (List.range 8).find? fun i => decide (w = pushW ++ [((49 + i : Nat) : Int)]) with
    | some i => some ([((32 + i : Nat) : Int)], i + 1)
    | none => (tbl.find? fun r => decide (r.wd = w)).map fun r => ([(r.op : Int)], r.bh)
/-- A statement: its bytes, with an error its place; what is left of the text, and where that begins. -/
def stP (w rest : List Int) (p pl : Nat) : (List Int × Nat × Int) × (List Int × Nat) :=
  match bgP w with
  | none => (([], pl, 140), rest, p)
  | some (hd, sz) => if sz = 0 then ((hd, 0, 0), rest, p) else
    if (ps (nxW rest)).2 = false ∨ sz < szo (ps (nxW rest)).1 then (([], p + rn rest true, 141), nxR rest, p + rn rest true + (nxW rest).length)
    else (((if w = pushW then ((31 + szo (ps (nxW rest)).1 : Nat) : Int) :: bek (szo (ps (nxW rest)).1) (ps (nxW rest)).1 else hd ++ bek sz (ps (nxW rest)).1), 0, 0), nxR rest, p + rn rest true + (nxW rest).length)
/-- A text's code; with an error its place. -/
def asP : Nat → List Int → List Int → Nat → List Int × Nat × Int
  | 0, _, _, _ => ([], 0, 0)
  | n + 1, code, rest, p =>
    if nxW rest = [] then (code, 0, 0) else
    let q := stP (nxW rest) (nxR rest) (p + rn rest true + (nxW rest).length) (p + rn rest true)
    if q.1.2.2 ≠ 0 then ([], q.1.2.1, q.1.2.2) else if 256 < code.length + q.1.1.length then ([], p + rn rest true, 142) else asP n (code ++ q.1.1) q.2.1 q.2.2
end Go.Proofs.YtbjjboicfghldaaDoor

/- A row of byte strings is rid of its doubles. -/
import Derived.Test.YtefhepcplempkaaGreatG30
import Derived.Shelf.SlSortCmp.Whole1
import Derived.Ground.SlsfProg
import Derived.Test.YtefhepcplempkaaGreatProg
import Derived.Test.YtefhepcplempkaaGreatG26
import Derived.Test.YtefhepcplempkaaGreatG29
set_option linter.unusedVariables false
set_option maxRecDepth 100000
namespace Go.Proofs.YtefhepcplempkaaGreat
open Go.RowKit
end Go.Proofs.YtefhepcplempkaaGreat
namespace Go.Proofs.YtefhepcplempkaaGreat
open Go.Shelf
def sortB_ren : Go.Shelf.Ren := ⟨fun | 6 => 45 | 15 => 74 | 14 => 73 | 28 => 107 | 29 => 108 | 20 => 99 | 21 => 100 | 22 => 101 | 23 => 102 | 24 => 103 | 25 => 104 | 26 => 105 | 27 => 106 | 46 => 135 | 47 => 136 | 48 => 137 | 49 => 138 | 50 => 139 | 57 => 151 | n => n, fun | 22 => 28 | 24 => 23 | 25 => 88 | 3 => 3 | 39 => 96 | 0 => 0 | 53 => 159 | 55 => 111 | 4 => 4 | 46 => 153 | 45 => 152 | 50 => 85 | 5 => 5 | 9 => 9 | 66 => 177 | 70 => 181 | 76 => 191 | 77 => 192 | n => n, fun | n => n⟩
end Go.Proofs.YtefhepcplempkaaGreat
namespace Go.Proofs.YtefhepcplempkaaGreat
open Go.RowKit Go.Proofs
open Go.Sort (Holds putRow putCells)
open Ni (lessP Ze1)
abbrev Gp (K : Nat -> Prop) (w : World) : Type := {p : Value × List Int // Gd K w p}
def encQ {K : Nat -> Prop} {w : World} (x : Gp K w) : Value := x.1.1
def ordQ {K : Nat -> Prop} {w : World} (x y : Gp K w) : Int := cmpP x.1.2 y.1.2
end Go.Proofs.YtefhepcplempkaaGreat
namespace Go.Proofs.YtefhepcplempkaaGreat
open Go.RowKit
open Tr
open Ni (lessP)
def insB (b : List Int) : List (List Int) -> List (List Int)
 | [] => [b]
 | x :: r => if b = x then x :: r else if lessP b x then b :: x :: r else x :: insB b r
def insAll (l : List (List Int)) (M : List (List Int)) : List (List Int) := M.foldl (fun l b => insB b l) l
def nodesP (t : Tr) : List (List Int) := if t.isNo then [] else insAll [] (nmd t ++ [encT t])
def RNo (w : World) (t : Tr) : Value -> World -> Prop := fun u w' => (∃ a n c, u = .slice a n c /\ Bt (fun b => w.heap.size <= b /\ ∀ x, a = some x -> b ≠ x.block) w' a n (nodesP t) /\ (∀ x, a = some x -> w.heap.size <= x.block) /\ n <= 7600000000000) /\ Bl w w'
end Go.Proofs.YtefhepcplempkaaGreat
namespace Go.Proofs.YtefhepcplempkaaGreat
open Go.RowKit
open Tr
open Di (dref)
def NoC (A : List (List Int)) : Prop := ∀ x ∈ A, ∀ y ∈ A, dref x = dref y -> x = y
def Nmd (A : List (List Int)) (r : PR) (t : Tr) : Prop := (r.k = 1 /\ r.i = encT t) \/ (r.k = 2 /\ r.d = dref (encT t) /\ encT t ∈ A)
end Go.Proofs.YtefhepcplempkaaGreat

/- What is written is read as it was; of an encoding no shorter piece is one: plain laws. -/
import Derived.Test.YtalhnnjpjaeakabGreatG12
import Derived.Test.YtalhnnjpjaeakabGreatG15
import Derived.Test.YtalhnnjpjaeakabGreatG02
namespace Go.Proofs.YtalhnnjpjaeakabGreat
set_option linter.unusedVariables false
end Go.Proofs.YtalhnnjpjaeakabGreat
/- A list of items that may be written each alone: it may be written, or is too deep: plain laws. -/
namespace Go.Proofs.YtalhnnjpjaeakabGreat
set_option linter.unusedVariables false
def Deep (d : Nat) (t : T) : Prop := ∀ w, w + (enc t).length ≤ 16777215 → ((wk t d w).2 = 0 ∧ (wk t d w).1 ≤ w + (enc t).length) ∨ (wk t d w).2 = 21
end Go.Proofs.YtalhnnjpjaeakabGreat
/- Nodes as plain data: the node that an item has the shape of, the item of a node, what may be, what bytes say; plain functions. -/
namespace Go.Proofs.YtalhnnjpjaeakabGreat
open Ni (unpP packP rightP)
set_option linter.unusedVariables false
structure PR where
  k : Int
  d : List Int
  i : List Int
structure PN where
  k : Int
  p : List Int
  v : List Int
  c : PR
  ks : List PR
def z32 : List Int := List.replicate 32 0
def r0 : PR := ⟨0, z32, []⟩
def n0 : PN := ⟨0, [], [], r0, []⟩
def t0 : T := .mk false [] []
def refOfP (t : T) : Option PR :=
  if t.l = true then (if (mP t).2 = 0 then some ⟨1, z32, enc t⟩ else none)
  else if t.bs.length = 0 then some r0
  else if t.bs.length = 32 then some ⟨2, t.bs, []⟩ else none
def pathP (x y : T) : Option PN :=
  if x.l = true ∨ (unpP x.bs).2.2 ≠ 0 then none
  else if (unpP x.bs).2.1 = true then (if y.l = true then none else some ⟨1, (unpP x.bs).1, y.bs, r0, []⟩)
  else match refOfP y with
    | none => none
    | some c => some ⟨2, (unpP x.bs).1, [], c, []⟩
def kidsP : List T → Option (List PR)
  | [] => some []
  | t :: r => match refOfP t with
    | none => none
    | some a => match kidsP r with
      | none => none
      | some l => some (a :: l)
def branchP (ts : List T) (y : T) : Option PN := match kidsP ts with
  | none => none
  | some ks => if y.l = true then none else some ⟨3, [], y.bs, r0, ks⟩
def nodeOfP (t : T) : Option PN :=
  if t.its.length = 2 then pathP (t.its.getD 0 t0) (t.its.getD 1 t0)
  else if t.its.length = 17 then branchP (t.its.take 16) (t.its.getD 16 t0) else none
def kd (o : Option PN) : Int := match o with
  | none => 0
  | some n => n.k
def rrefP (dk : List Int → Int) (r : PR) : Bool :=
  if r.k = 0 then decide (r.d = z32) && decide (r.i.length = 0)
  else if r.k = 2 then decide (r.i.length = 0)
  else if r.k = 1 then decide (r.d = z32) && decide (r.i.length < 32) && decide (dk r.i ≠ 0)
  else false
def rpathP (n : PN) : Bool :=
  if n.k = 2 then (if n.p.length = 0 then false else decide (n.p.length ≤ 64) && rightP n.p)
  else if n.k = 1 then decide (n.p.length ≤ 64) && rightP n.p
  else decide (n.p.length = 0)
def rvalueP (n : PN) : Bool :=
  if n.k = 1 then (if n.v.length = 0 then false else decide (n.v.length ≤ 256))
  else if n.k = 3 then decide (n.v.length ≤ 256)
  else decide (n.v.length = 0)
def rchildP (dk : List Int → Int) (n : PN) : Bool :=
  if rrefP dk n.c = false then false
  else if n.k ≠ 2 then decide (n.c.k = 0)
  else decide (n.c.k = 2) || decide (dk n.c.i = 3)
def ways : List PR → Nat
  | [] => 0
  | r :: l => (if r.k ≠ 0 then 1 else 0) + ways l
def rkidsP (dk : List Int → Int) (n : PN) : Bool :=
  if n.k ≠ 3 then decide (n.ks.length = 0)
  else if n.ks.length ≠ 16 then false
  else n.ks.all (rrefP dk) && decide (2 ≤ (if 0 < n.v.length then 1 else 0) + ways n.ks)
def knownP (n : PN) : Bool := decide (n.k = 1) || decide (n.k = 2) || decide (n.k = 3)
def nright (dk : List Int → Int) (n : PN) : Bool := knownP n && rpathP n && rvalueP n && rchildP dk n && rkidsP dk n
def ndec : Nat → List Int → Option PN
  | 0, _ => none
  | f + 1, b => match decP b with
    | .bad _ => none
    | .ok t => match nodeOfP t with
      | none => none
      | some n => if nright (fun i => kd (ndec f i)) n = true then some n else none
/-- What Decode tells. -/
def ND (b : List Int) : Option PN := ndec 33 b
def KD (b : List Int) : Int := kd (ND b)
/-- What Right tells. -/
def NR (n : PN) : Bool := nright KD n
def refItemP (r : PR) : T :=
  if r.k = 1 then (match decP r.i with | .ok t => t | .bad _ => t0)
  else if r.k = 2 then .mk false r.d [] else t0
def itemP (n : PN) : T :=
  if n.k = 3 then .mk true [] (n.ks.map refItemP ++ [.mk false n.v []])
  else if n.k = 1 then .mk true [] [.mk false (packP n.p true).1 [], .mk false n.v []]
  else .mk true [] [.mk false (packP n.p false).1 [], refItemP n.c]
def isB (b : List Int) : Prop := ∀ x ∈ b, 0 ≤ x ∧ x < 256
/-- A reference whose bytes are bytes. -/
def okR (r : PR) : Prop := isB r.d ∧ r.d.length = 32 ∧ isB r.i
def okN (n : PN) : Prop := isB n.p ∧ isB n.v ∧ okR n.c ∧ ∀ r ∈ n.ks, okR r

end Go.Proofs.YtalhnnjpjaeakabGreat

/- What the document's head, body and Bytes answer. -/
import Derived.Test.YtmofehloiiopfaaG15
import Derived.Deep.CutRange
namespace Go.Proofs.Ytmofehloiiopfaa
open Go.RowKit
set_option linter.unusedVariables false
set_option maxRecDepth 100000
/-- Not in older memory. -/
def Nw (base : Nat) (a : Option Addr) : Prop := ∀ g off, a = some ⟨g, off, none⟩ → base ≤ g
def BytesSaid (t : T) : Prop := ∀ (x : V) (w : World), Lies w t x → (bodyOf t).length ≤ 16777215 →
  Calls Try.prog 47 #[.agg #[.bool x.l, .slice x.ba x.bn x.bc, .slice x.ia x.m x.ic]] w fun e w' => (∃ a n c, e = .returned (.slice a n c) ∧ Ag w' a n c (enc t) ∧ (x.l = true → Nw w.heap.size a)) ∧ Below w.heap.size w w'
/-- What has been gathered of a body. -/
structure Gb (W : World) (B : Nat) (bs : List Int) (its : List T) (j : Nat) (q : Value) (v : World) (cur : List Int) : Prop where
  own : OwnB v B q cur
  eq : cur = bs ++ encs (its.take j)
  bel : Below B W v
  by8 : ∀ x ∈ cur, 0 ≤ x ∧ x < 256
end Go.Proofs.Ytmofehloiiopfaa
/- What the document's reader answers: copied, and first for bytes that are no list. -/
namespace Go.Proofs.Ytmofehloiiopfaa
open Go.RowKit
set_option linter.unusedVariables false
set_option maxRecDepth 100000
/-- A piece of bytes. -/
def pc (b : List Int) (i j : Nat) : List Int := (b.take j).drop i
def zeroV : Value := .agg #[.bool false, .slice none 0 0, .slice none 0 0]
/-- What first leaves. -/
def FPost (w : World) (i : Nat) (r : R) : Ending → World → Prop := fun e w' => Below w.heap.size w w' ∧
  match r with
  | .bad er => e = .returned (.tuple #[.agg #[.bool false, .slice none 0 0, .slice none 0 0], .int .i64 0, .int .i64 (er : Nat)]) ∧ er ≠ 0
  | .ok t m => ∃ y : V, e = .returned (.tuple #[.agg #[.bool y.l, .slice y.ba y.bn y.bc, .slice y.ia y.m y.ic], .int .i64 (i + m : Nat), .int .i64 0]) ∧ LiesP (fun b => w.heap.size ≤ b) w' t y
def FSaid (k : Nat) : Prop := ∀ (a : Option Addr) (n c : Nat) (b : List Int) (w : World), Ag w a n c b → n ≤ 140737488351232 → ∀ i j d : Nat, i ≤ j → j ≤ n → d + k = 8 →
  Calls Try.prog 70 #[.slice a n c, .int .i64 i, .int .i64 j, .int .i64 d] w (FPost w i (rd k (pc b i j)))
/-- What items leaves. -/
def GPost (w : World) (j : Nat) (r : RL) : Ending → World → Prop := fun e w' => Below w.heap.size w w' ∧
  match r with
  | .bad er => e = .returned (.tuple #[.agg #[.bool false, .slice none 0 0, .slice none 0 0], .int .i64 0, .int .i64 (er : Nat)]) ∧ er ≠ 0
  | .ok ts => ∃ ia ic, e = .returned (.tuple #[.agg #[.bool true, .slice none 0 0, .slice ia ts.length ic], .int .i64 j, .int .i64 0]) ∧ ts.length ≤ ic ∧ ic ≤ maxLen ∧ LiesPAll (fun b => w.heap.size ≤ b) w' ts ia 0
/-- What is known of the head. -/
structure Hd (deep : Bool) (x : Int) (r : List Int) (f L : Nat) : Prop where
  f1 : 1 ≤ f
  f4 : f ≤ 4
  L24 : L < 16777216
  iff : f = 1 ↔ L ≤ 55
  fle : f ≤ r.length + 1
  eq : hdr deep (x :: r) = if (r.length + 1) - f < L then .bad 22 else .ok f (f + L)
end Go.Proofs.Ytmofehloiiopfaa
/- What the document's first answers, for bytes that begin with a text, or with nothing. -/
namespace Go.Proofs.Ytmofehloiiopfaa
open Go.RowKit
set_option linter.unusedVariables false
set_option maxRecDepth 100000
end Go.Proofs.Ytmofehloiiopfaa

/- What read answers. -/
import Derived.Test.YtalhnnjpjaeakabGreatG14
namespace Go.Proofs.YtalhnnjpjaeakabGreat
open Go.RowKit
set_option linter.unusedVariables false
set_option maxRecDepth 100000
end Go.Proofs.YtalhnnjpjaeakabGreat
/- What read, First and Decode answer. -/
namespace Go.Proofs.YtalhnnjpjaeakabGreat
open Go.RowKit
set_option linter.unusedVariables false
set_option maxRecDepth 100000
end Go.Proofs.YtalhnnjpjaeakabGreat
/- What read, First and Decode answer. -/
namespace Go.Proofs.YtalhnnjpjaeakabGreat
open Go.RowKit
set_option linter.unusedVariables false
set_option maxRecDepth 100000
inductive RT where
  | bad (e : Nat)
  | ok (t : T)
/-- What Decode tells. -/
def decP (b : List Int) : RT := match rd 8 b with
  | .bad e => .bad e
  | .ok t n => if n < b.length then .bad 24 else .ok t
def DecPost (w : World) (r : RT) : Ending → World → Prop := fun e w' => Below w.heap.size w w' ∧
  match r with
  | .bad er => e = .returned (.tuple #[.agg #[.bool false, .slice none 0 0, .slice none 0 0], .int .i64 (er : Nat)]) ∧ er ≠ 0
  | .ok t => ∃ y : V, e = .returned (.tuple #[.agg #[.bool y.l, .slice y.ba y.bn y.bc, .slice y.ia y.m y.ic], .int .i64 0]) ∧ LiesP (fun b => w.heap.size ≤ b) w' t y
/-- Any world of which something holds, in the place of one. -/
theorem gen_w {W : World} {p q : World → Prop} (F : q W) (h : ∀ v, q v → p v) : p W := h W F
/-- The result's block, while a call goes on. -/
structure Rb (w v : World) : Prop where
  row : v.heap[w.heap.size]? = some (.cells #[.bool false, .slice none 0 0, .slice none 0 0] 82)
  bel : Below w.heap.size w v
end Go.Proofs.YtalhnnjpjaeakabGreat

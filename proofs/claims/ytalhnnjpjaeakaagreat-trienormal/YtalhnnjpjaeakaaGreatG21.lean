/- A range over a function that hands two values. -/
import Derived.Test.YtalhnnjpjaeakaaGreatG01
import Derived.Test.YtalhnnjpjaeakaaGreatG19
import Derived.Test.YtalhnnjpjaeakaaGreatG20
import Derived.Test.YtalhnnjpjaeakaaGreatG02
namespace Go.Proofs.YtalhnnjpjaeakaaGreat
open Go.RowKit
open Go.ChangeMaps (setBlock)
set_option linter.unusedVariables false
set_option maxRecDepth 100000
section
variable {r : Option Nat} {m : Nat} {P : Program} {ds : List Deferred} {n : Nat} {Q : Exit → Act → World → Prop} {env : Env} {w w' : World} {ops : Array Oper} {l : List Oper} {o : Oper}
end
end Go.Proofs.YtalhnnjpjaeakaaGreat
/- What is old; what a block that is written over leaves alone. -/
namespace Go.Proofs.YtalhnnjpjaeakaaGreat
open Go.RowKit
open Tr
set_option linter.unusedVariables false
set_option maxRecDepth 100000
/-- All that a tree has is old. -/
theorem TA.old {K : Nat → Prop} {w : World} : ∀ {t : Tr} {v : Value}, TA K w t v → TA (fun b => b < w.heap.size) w t v := by
  have hs : ∀ {a : Option Addr} {n c : Nat} {bs : List Int}, Sk K w a n c bs → Sk (fun b => b < w.heap.size) w a n c bs := fun h => ⟨h.ag, fun x hx hn => h.old hx hn⟩
  intro t
  induction t with
  | no => intro v h; exact h
  | leaf p x => rintro v ⟨a, n, c, a', n', c', h1, h2, h3, h4⟩; exact ⟨a, n, c, a', n', c', h1, hs h2, hs h3, h4⟩
  | ext p t ih => rintro v ⟨a, n, c, u, h1, h2, h3⟩; exact ⟨a, n, c, u, h1, hs h2, ih h3⟩
  | br k x ih => rintro v ⟨vs, a, n, c, h1, h2, h3, h4⟩; exact ⟨vs, a, n, c, h1, fun i hi => ih i (h2 i hi), hs h3, h4⟩
theorem TA.mono {K K' : Nat → Prop} {w : World} (hK : ∀ b, K b → K' b) : ∀ {t : Tr} {v : Value}, TA K w t v → TA K' w t v := by
  intro t
  induction t with
  | no => intro v h; exact h
  | leaf p x => rintro v ⟨a, n, c, a', n', c', h1, h2, h3, h4⟩; exact ⟨a, n, c, a', n', c', h1, h2.mono hK, h3.mono hK, h4⟩
  | ext p t ih => rintro v ⟨a, n, c, u, h1, h2, h3⟩; exact ⟨a, n, c, u, h1, h2.mono hK, ih h3⟩
  | br k x ih => rintro v ⟨vs, a, n, c, h1, h2, h3, h4⟩; exact ⟨vs, a, n, c, h1, fun i hi => ih i (h2 i hi), h3.mono hK, h4⟩
theorem Sk.tou {K : Nat → Prop} {w w' : World} {g : Nat} {a : Option Addr} {n c : Nat} {bs : List Int} (h : Sk K w a n c bs) (t : Touch g w w') (hg : ¬ K g) : Sk K w' a n c bs := by
  refine ⟨⟨?_, h.ag.nil, h.ag.l, h.ag.b⟩, h.k⟩
  rcases h.ag.i with h1 | ⟨gb, off, h1, h2, h3, h4, h5, h7⟩
  · exact .inl h1
  · refine .inr ⟨gb, off, h1, h2, h3, h4, h5, fun j hj => ?_⟩
    rw [← h7 j hj]
    have hk := h.k _ h1 h3
    exact World.cell?_of_block (t.block gb (block_lt_of_cell (h7 j hj)) (fun e => hg (e ▸ hk)))
end Go.Proofs.YtalhnnjpjaeakaaGreat
/- A range over all keys of a trie; how many there are. -/
namespace Go.Proofs.YtalhnnjpjaeakaaGreat
open Go.RowKit
open Tr
set_option linter.unusedVariables false
set_option maxRecDepth 100000
def KpR (U : Nat → Prop) (A B : World) : Prop := KpU U A.heap.size A B
/-- The count so far. -/
def Cnt (w : World) (gN : Nat) (xs : List (Value × Value)) (W : World) : Prop := Rw gN W #[.int .i64 ((xs.length : Nat) : Int)] 3 ∧ Bl w W
end Go.Proofs.YtalhnnjpjaeakaaGreat
/- The keys and values alone say the tree. -/
namespace Go.Proofs.YtalhnnjpjaeakaaGreat
set_option linter.unusedVariables false
namespace Tr
end Tr
end Go.Proofs.YtalhnnjpjaeakaaGreat

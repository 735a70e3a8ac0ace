/- The keys and values alone say the tree. -/
import Derived.Test.YtalhnnjpjaeakabGreatG03
namespace Go.Proofs.YtalhnnjpjaeakabGreat
set_option linter.unusedVariables false
namespace Tr
end Tr
end Go.Proofs.YtalhnnjpjaeakabGreat
/- A Put and a Delete take each other back. -/
namespace Go.Proofs.YtalhnnjpjaeakabGreat
set_option linter.unusedVariables false
namespace Tr
end Tr
end Go.Proofs.YtalhnnjpjaeakabGreat
/- Byte strings in order: what is sorted and rid of its doubles is told by its members. -/
namespace Go.Proofs.YtalhnnjpjaeakabGreat
set_option linter.unusedVariables false
open Ni (lessP less_one)
theorem less_irr : ∀ a : List Int, lessP a a = false
  | [] => rfl
  | x :: r => by simp [lessP, less_irr r]
theorem less_trans : ∀ a b c : List Int, lessP a b = true → lessP b c = true → lessP a c = true
  | [], [], _, h, _ => by simp [lessP] at h
  | [], _ :: _, [], _, h => by simp [lessP] at h
  | [], _ :: _, _ :: _, _, _ => rfl
  | _ :: _, [], _, h, _ => by simp [lessP] at h
  | _ :: _, _ :: _, [], _, h => by simp [lessP] at h
  | x :: a, y :: b, z :: c, h, k => by
    simp only [lessP] at h k ⊢
    by_cases h1 : x = y
    · subst h1
      rw [if_pos rfl] at h
      by_cases h2 : x = z
      · subst h2
        rw [if_pos rfl] at k ⊢
        exact less_trans a b c h k
      · rw [if_neg h2] at k ⊢
        exact k
    · rw [if_neg h1] at h
      by_cases h2 : y = z
      · subst h2
        rw [if_neg h1]
        exact h
      · rw [if_neg h2] at k
        have h3 := of_decide_eq_true h
        have h4 := of_decide_eq_true k
        rw [if_neg (by omega)]
        exact decide_eq_true (by omega)
theorem less_tot (a b : List Int) (h : a ≠ b) (k : lessP a b = false) : lessP b a = true := by
  have := less_one a b
  simpa [h, k] using this
def cmpP (a b : List Int) : Int := if a = b then 0 else if lessP a b then -1 else 1
/-- Rising. -/
def SrtB (M : List (List Int)) : Prop := M.Pairwise fun a b => lessP a b = true
/-- Rid of doubles that stand beside each other. -/
def ddg (p : List Int) : List (List Int) → List (List Int)
  | [] => []
  | y :: r => if y = p then ddg p r else y :: ddg y r
def dd : List (List Int) → List (List Int)
  | [] => []
  | x :: r => x :: ddg x r
end Go.Proofs.YtalhnnjpjaeakabGreat

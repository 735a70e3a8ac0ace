/- Byte strings in order: what is sorted and rid of its doubles is told by its members. -/
import Derived.Test.YtdkpilgelgjieaaG30
import Derived.Test.YtdkpilgelgjieaaG19
import Derived.Test.YtdkpilgelgjieaaG26
namespace Go.Proofs.Ytdkpilgelgjieaa
set_option linter.unusedVariables false
open Ni (lessP)
theorem less_irr : ∀ a : List Int, lessP a a = false
  | [] => rfl
  | x :: r => by simp [lessP, less_irr r]
theorem less_trans : ∀ a b c : List Int, lessP a b = true → lessP b c = true → lessP a c = true
  | [], [], _, h, _ => by simp [lessP] at h
  | [], _ :: _, [], _, h => by simp [lessP] at h
  | [], _ :: _, _ :: _, _, _ => rfl
  | _ :: _, [], _, h, _ => by simp [lessP] at h
  | _ :: _, _ :: _, [], _, h => by simp [lessP] at h
  | x :: a, y :: b, z :: c, h, k => by
    simp only [lessP] at h k ⊢
    by_cases h1 : x = y
    · subst h1
      rw [if_pos rfl] at h
      by_cases h2 : x = z
      · subst h2
        rw [if_pos rfl] at k ⊢
        exact less_trans a b c h k
      · rw [if_neg h2] at k ⊢
        exact k
    · rw [if_neg h1] at h
      by_cases h2 : y = z
      · subst h2
        rw [if_neg h1]
        exact h
      · rw [if_neg h2] at k
        have h3 := of_decide_eq_true h
        have h4 := of_decide_eq_true k
        rw [if_neg (by omega)]
        exact decide_eq_true (by omega)
end Go.Proofs.Ytdkpilgelgjieaa
/- Keys and values as a list in order, and what a tree has to do with it. -/
namespace Go.Proofs.Ytdkpilgelgjieaa
open Tr
open Ni (lessP)
set_option linter.unusedVariables false
end Go.Proofs.Ytdkpilgelgjieaa
/- Calls on a trie, told as a list. -/
namespace Go.Proofs.Ytdkpilgelgjieaa
open Go.RowKit
open Tr
set_option linter.unusedVariables false
set_option maxRecDepth 100000
/-- A call that is told: its kind, its key, its value, where they lie. -/
structure Opx where
  z : Int
  ka : Option Addr
  kn : Nat
  kc : Nat
  va : Option Addr
  vn : Nat
  vc : Nat
  k : List Int
  x : List Int
def Opx.cells (y : Opx) : Array Value := #[.int .i64 y.z, .slice y.ka y.kn y.kc, .slice y.va y.vn y.vc]
def An : Nat → Prop := fun _ => True
end Go.Proofs.Ytdkpilgelgjieaa
/- A tree and a list in order that say the same; two ways to one tree. -/
namespace Go.Proofs.Ytdkpilgelgjieaa
open Tr
open Ni (lessP)
set_option linter.unusedVariables false
end Go.Proofs.Ytdkpilgelgjieaa

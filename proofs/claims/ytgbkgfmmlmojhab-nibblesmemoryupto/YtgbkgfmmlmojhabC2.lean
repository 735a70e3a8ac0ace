/- What behind and Of answer: a path in memory of its own, cut with its end. -/
import Derived.Test.YtgbkgfmmlmojhabB1
namespace Go.Proofs.Ytgbkgfmmlmojhab
open Go.RowKit
set_option linter.unusedVariables false
/-- A row of bytes in a block of its own, from a place on, with no room behind it. -/
structure Cut (w : World) (base : Nat) (a : Option Addr) (n : Nat) (bs : List Int) : Prop where
  ag : Ag w a n n bs
  own : 0 < n → ∃ g off cur, a = some ⟨g, off, none⟩ ∧ base ≤ g ∧ w.heap[g]? = some (.cells cur 5)
theorem drop_getD (b : List Int) (k j : Nat) : (b.drop k).getD j 0 = b.getD (k + j) 0 := by
  rw [List.getD, List.getD, List.getElem?_drop]
theorem behind_in (n c k : Nat) (w : World) (hk : k < n) (hnc : n ≤ c) (hc : c ≤ maxLen) (hn : n ≤ 140737488355328) (g off : Nat) :
    Calls Try.prog 10 #[.slice (some ⟨g, off, none⟩) n c, .int .i64 k] w fun e w' => e = .returned (.slice (some ⟨g, off + k, none⟩) (n - k) (n - k)) ∧ w' = w := by
  unfold maxLen at hc
  have h1 : (k : Int) ≤ n := by omega
  have h2 : (n : Int) ≤ c := by omega
  have h3 : ¬ n = k := by omega
  go_enter Try.func10, Try.ntmps10
  go_wp2_with fail
  go_ret
  exact ⟨rfl, rfl⟩
theorem behind_end (a : Option Addr) (n c : Nat) (w : World) (hnc : n ≤ c) (hc : c ≤ maxLen) (hn : n ≤ 140737488355328) (hd : a = none → n = 0 ∧ c = 0) :
    Calls Try.prog 10 #[.slice a n c, .int .i64 n] w fun e w' => (∃ a', e = .returned (.slice a' 0 0)) ∧ w' = w := by
  unfold maxLen at hc
  have h2 : (n : Int) ≤ c := by omega
  cases a with
  | none =>
    obtain ⟨rfl, rfl⟩ := hd rfl
    clear hd
    rw [show ((0 : Nat) : Int) = 0 from rfl]
    go_enter Try.func10, Try.ntmps10
    go_wp2_with fail
    go_ret
    exact ⟨⟨_, rfl⟩, rfl⟩
  | some ad =>
    clear hd
    go_enter Try.func10, Try.ntmps10
    go_wp2_with fail
    go_ret
    exact ⟨⟨_, rfl⟩, rfl⟩
theorem behind_any (a : Option Addr) (n c k base : Nat) (bs : List Int) (w : World) (hk : k ≤ n) (hnc : n ≤ c) (hc : c ≤ maxLen) (hn : n ≤ 140737488355328) (h : Ag w a n c bs)
    (hown : 0 < n → ∃ g off cur, a = some ⟨g, off, none⟩ ∧ base ≤ g ∧ w.heap[g]? = some (.cells cur 5)) :
    Calls Try.prog 10 #[.slice a n c, .int .i64 k] w fun e w' => (∃ a', e = .returned (.slice a' (n - k) (n - k)) ∧ Cut w base a' (n - k) (bs.drop k)) ∧ w' = w := by
  have hl := h.l
  by_cases hkn : k < n
  · obtain ⟨g, off, cur, rfl, hg, hh⟩ := hown (by omega)
    refine (behind_in n c k w hkn hnc hc hn g off).mono ?_
    rintro e w' ⟨rfl, rfl⟩
    refine ⟨⟨_, rfl, ⟨⟨.inr ⟨g, off + k, rfl, by rw [List.length_drop]; omega, by omega, Nat.le_refl _, by unfold maxLen at hc ⊢; omega, fun j hj => ?_⟩, (fun h => by cases h), by rw [List.length_drop]; omega, isB_drop h.b k⟩, fun _ => ⟨g, off + k, cur, rfl, hg, hh⟩⟩⟩, rfl⟩
    rcases h.i with ⟨h0, _⟩ | ⟨gb, off', h1, h2, h3, h4, h5, h7⟩
    · omega
    · injection h1 with h1
      injection h1 with e1 e2
      subst e1 e2
      rw [List.length_drop] at hj
      rw [drop_getD, Nat.add_assoc]
      exact h7 (k + j) (by omega)
  · have e : k = n := by omega
    subst e
    refine (behind_end a k c w hnc hc hn (fun ha => by have := h.nil ha; omega)).mono ?_
    rintro e w' ⟨⟨a', rfl⟩, rfl⟩
    rw [Nat.sub_self, List.drop_of_length_le (by omega)]
    exact ⟨⟨a', rfl, ag_zero w' a', fun h => by omega⟩, rfl⟩
end Go.Proofs.Ytgbkgfmmlmojhab

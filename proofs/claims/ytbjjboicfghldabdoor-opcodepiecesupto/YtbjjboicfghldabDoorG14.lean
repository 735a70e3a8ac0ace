/- What Add, Sub and Mul answer, the program's and the document's. -/
import Derived.Test.YtbjjboicfghldabDoorG03
import Derived.Test.YtbjjboicfghldabDoorG01
namespace Go.Proofs.YtbjjboicfghldabDoor.Wo
open Go.RowKit
set_option linter.unusedVariables false
def addP (a b : Int) : Int × Bool := if b > 18446744073709551615 - a then (0, false) else (a + b, true)
def subP (a b : Int) : Int × Bool := if b > a then (0, false) else (a - b, true)
def mulP (a b : Int) : Int × Bool := if a * b < 18446744073709551616 then (a * b, true) else (0, false)
theorem add_any (a b : Int) (ha : 0 ≤ a ∧ a < 18446744073709551616) (hb : 0 ≤ b ∧ b < 18446744073709551616) (w : World) :
    Calls Tryd.prog 43 #[.int .u64 a, .int .u64 b] w fun e w' => e = .returned (.tuple #[.int .u64 (addP a b).1, .bool (addP a b).2]) ∧ w' = w := by
  obtain ⟨ha0, ha1⟩ := ha
  obtain ⟨hb0, hb1⟩ := hb
  unfold addP
  by_cases h : b > 18446744073709551615 - a
  · rw [if_pos h]
    go_enter Tryd.func43, Tryd.ntmps43
    go_wp2_with fail
    go_ret2
    exact ⟨rfl, rfl⟩
  · rw [if_neg h]
    go_enter Tryd.func43, Tryd.ntmps43
    go_wp2_with fail
    go_ret2
    exact ⟨rfl, rfl⟩
theorem mul_any (a b : Int) (ha : 0 ≤ a ∧ a < 18446744073709551616) (hb : 0 ≤ b ∧ b < 18446744073709551616) (w : World) :
    Calls Tryd.prog 42 #[.int .u64 a, .int .u64 b] w fun e w' => e = .returned (.tuple #[.int .u64 (mulP a b).1, .bool (mulP a b).2]) ∧ w' = w := by
  obtain ⟨ha0, ha1⟩ := ha
  obtain ⟨hb0, hb1⟩ := hb
  unfold mulP
  by_cases hz : a = 0
  · subst hz
    rw [Int.zero_mul, if_pos (by decide)]
    go_enter Tryd.func42, Tryd.ntmps42
    go_wp2_with fail
    go_ret2
    exact ⟨rfl, rfl⟩
  have hpos : 0 < a := by omega
  have hzb : (a == 0) = false := by simp [hz]
  have hdv : b > 18446744073709551615 / a ↔ ¬ a * b < 18446744073709551616 := by
    rw [gt_iff_lt, Int.ediv_lt_iff_lt_mul hpos, Int.mul_comm b a]
    omega
  by_cases h : a * b < 18446744073709551616
  · rw [if_pos h]
    have hq : ¬ b > 18446744073709551615 / a := fun hh => (hdv.1 hh) h
    have hm0 : 0 ≤ a * b := Int.mul_nonneg ha0 hb0
    clear hdv
    go_enter Tryd.func42, Tryd.ntmps42
    go_wp2_with fail
    go_ret2
    exact ⟨rfl, rfl⟩
  · rw [if_neg h]
    have hq : b > 18446744073709551615 / a := hdv.2 h
    clear hdv
    go_enter Tryd.func42, Tryd.ntmps42
    go_wp2_with fail
    go_ret2
    exact ⟨rfl, rfl⟩
end Go.Proofs.YtbjjboicfghldabDoor.Wo

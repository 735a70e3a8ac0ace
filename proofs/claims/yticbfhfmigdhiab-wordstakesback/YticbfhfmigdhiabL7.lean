/- That WordsTakesBack answers true. -/
import Derived.Test.YticbfhfmigdhiabV1
import Derived.Test.YticbfhfmigdhiabA1
namespace Go.Proofs.Yticbfhfmigdhiab
open Go.RowKit
set_option linter.unusedVariables false
set_option maxHeartbeats 1000000 in
theorem takes_law (a b : Int) (ha : 0 ≤ a ∧ a < 18446744073709551616) (hb : 0 ≤ b ∧ b < 18446744073709551616) (w : World) :
    Calls Try.prog 3 #[.int .u64 a, .int .u64 b] w fun e w' => e = .returned (.bool true) ∧ Below w.heap.size w w' := by
  have H1 := Hid.mk (add_any a b ha hb)
  have h2 := add_any b a hb ha
  have e2 : addP b a = addP a b := by
    unfold addP
    by_cases h : b > 18446744073709551615 - a
    · rw [if_pos h, if_pos (by omega)]
    · rw [if_neg h, if_neg (by omega), Int.add_comm]
  rw [e2] at h2
  have H2 := Hid.mk h2
  have H3 := Hid.mk (mul_any a b ha hb)
  have h4 := mul_any b a hb ha
  rw [show mulP b a = mulP a b from by unfold mulP; rw [Int.mul_comm]] at h4
  have H4 := Hid.mk h4
  generalize mulP a b = z at *
  obtain ⟨z, r⟩ := z
  clear h2 h4 e2
  by_cases h : b > 18446744073709551615 - a
  · have e : addP a b = (0, false) := by unfold addP; rw [if_pos h]
    rw [e] at H1 H2
    have h5 := sub_any 18446744073709551615 a (by omega) ha
    rw [show subP 18446744073709551615 a = (18446744073709551615 - a, true) from by unfold subP; rw [if_neg (by omega)]] at h5
    have H5 := Hid.mk h5
    obtain ⟨ha0, ha1⟩ := ha
    obtain ⟨hb0, hb1⟩ := hb
    have hlt : 18446744073709551615 - a < b := h
    clear e h5 h
    go_enter Try.func3, Try.ntmps3
    go_wp2_with fail
    refine (H1.out w).mono ?_
    rintro e w1 ⟨rfl, rfl⟩
    go_wp2_with fail
    refine (H2.out w1).mono ?_
    rintro e w2 ⟨rfl, rfl⟩
    go_wp2_with fail
    refine (H3.out w2).mono ?_
    rintro e w3 ⟨rfl, rfl⟩
    go_wp2_with fail
    refine (H4.out w3).mono ?_
    rintro e w4 ⟨rfl, rfl⟩
    go_wp2_with fail
    refine (alive_any w4).mono ?_
    rintro e w5 ⟨rfl, hb5⟩
    have B5 := Hid.mk hb5
    clear hb5
    go_wp2_with fail
    refine (H5.out w5).mono ?_
    rintro e w6 ⟨rfl, rfl⟩
    go_wp2_with fail
    go_ret
    exact ⟨rfl, B5.out⟩
  · have e : addP a b = (a + b, true) := by unfold addP; rw [if_neg h]
    rw [e] at H1 H2
    have h5 := sub_any (a + b) b (by omega) hb
    rw [show subP (a + b) b = (a, true) from by unfold subP; rw [if_neg (by omega), Int.add_sub_cancel]] at h5
    have H5 := Hid.mk h5
    clear e h5 h ha hb
    go_enter Try.func3, Try.ntmps3
    go_wp2_with fail
    refine (H1.out w).mono ?_
    rintro e w1 ⟨rfl, rfl⟩
    go_wp2_with fail
    refine (H2.out w1).mono ?_
    rintro e w2 ⟨rfl, rfl⟩
    go_wp2_with fail
    refine (H3.out w2).mono ?_
    rintro e w3 ⟨rfl, rfl⟩
    go_wp2_with fail
    refine (H4.out w3).mono ?_
    rintro e w4 ⟨rfl, rfl⟩
    go_wp2_with fail
    refine (alive_any w4).mono ?_
    rintro e w5 ⟨rfl, hb5⟩
    have B5 := Hid.mk hb5
    clear hb5
    go_wp2_with fail
    refine (H5.out w5).mono ?_
    rintro e w6 ⟨rfl, rfl⟩
    go_wp2_with fail
    go_ret
    exact ⟨rfl, B5.out⟩
end Go.Proofs.Yticbfhfmigdhiab

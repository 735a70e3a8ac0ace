/- That WordsSums answers true. -/
import Derived.Test.YticbfhfmigdhiaaA2
namespace Go.Proofs.Yticbfhfmigdhiaa
open Go.RowKit
set_option linter.unusedVariables false
theorem sums_law (a b : Int) (ha : 0 ≤ a ∧ a < 18446744073709551616) (hb : 0 ≤ b ∧ b < 18446744073709551616) (w : World) :
    Calls Try.prog 3 #[.int .u64 a, .int .u64 b] w fun e w' => e = .returned (.bool true) ∧ Below w.heap.size w w' := by
  have h1 := add_any a b ha hb
  have h2 := sub_any a b ha hb
  have h3 := mul_any a b ha hb
  have h4 := radd_any a b ha hb
  have h5 := rsub_any a b ha hb
  have h6 := rmul_any a b ha hb
  generalize addP a b = x at *
  generalize subP a b = y at *
  generalize mulP a b = z at *
  obtain ⟨x, p⟩ := x
  obtain ⟨y, q⟩ := y
  obtain ⟨z, r⟩ := z
  simp only at h1 h2 h3 h4 h5 h6
  clear ha hb
  go_enter Try.func3, Try.ntmps3
  go_wp2_with fail
  refine (h1 w).mono ?_
  rintro e w1 ⟨rfl, rfl⟩
  go_wp2_with fail
  refine (h2 w1).mono ?_
  rintro e w2 ⟨rfl, rfl⟩
  go_wp2_with fail
  refine (h3 w2).mono ?_
  rintro e w3 ⟨rfl, rfl⟩
  go_wp2_with fail
  refine (h4 w3).mono ?_
  rintro e w4 ⟨rfl, rfl⟩
  go_wp2_with fail
  refine (h5 w4).mono ?_
  rintro e w5 ⟨rfl, rfl⟩
  go_wp2_with fail
  refine (h6 w5).mono ?_
  rintro e w6 ⟨rfl, rfl⟩
  go_wp2_with fail
  go_ret
  exact ⟨rfl, Below.refl _ _⟩
end Go.Proofs.Yticbfhfmigdhiaa

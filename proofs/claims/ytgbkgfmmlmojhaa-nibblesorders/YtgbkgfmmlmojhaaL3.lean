/- That NibblesOrders answers true. -/
import Derived.Test.YtgbkgfmmlmojhaaV1
import Derived.Test.YtgbkgfmmlmojhaaC7
import Derived.Test.YtgbkgfmmlmojhaaD7
namespace Go.Proofs.Ytgbkgfmmlmojhaa
open Go.RowKit
set_option linter.unusedVariables false
set_option maxHeartbeats 1000000 in
theorem orders_law (a1 : Option Addr) (n1 c1 : Nat) (p : List Int) (a2 : Option Addr) (n2 c2 : Nat) (q : List Int) (hn1 : n1 ≤ 140737488351232) (hn2 : n2 ≤ 140737488351232) (w : World) (h1 : Ag w a1 n1 c1 p) (h2 : Ag w a2 n2 c2 q) :
    Calls Try.prog 5 #[.slice a1 n1 c1, .slice a2 n2 c2] w fun e w' => e = .returned (.bool true) ∧ Below w.heap.size w w' := by
  have HA1 := Hid.mk h1
  have HA2 := Hid.mk h2
  have hC1 := fun v (hb : Below w.heap.size w v) => common_any a1 a2 n1 c1 n2 c2 p q v (h1.at hb) (h2.at hb) (by omega) (by omega)
  have hC2 := fun v (hb : Below w.heap.size w v) => common_any a2 a1 n2 c2 n1 c1 q p v (h2.at hb) (h1.at hb) (by omega) (by omega)
  have hC3 := fun v (hb : Below w.heap.size w v) => rcommon_any a1 a2 n1 c1 n2 c2 p q v (h1.at hb) (h2.at hb) (by omega) (by omega)
  rw [com_comm q p] at hC2
  have hL1 := fun v (hb : Below w.heap.size w v) => less_any a1 a2 n1 c1 n2 c2 p q v (h1.at hb) (h2.at hb) (by omega) (by omega)
  have hL2 := fun v (hb : Below w.heap.size w v) => less_any a2 a1 n2 c2 n1 c1 q p v (h2.at hb) (h1.at hb) (by omega) (by omega)
  have hL3 := fun v (hb : Below w.heap.size w v) => rless_any a1 a2 n1 c1 n2 c2 p q v (h1.at hb) (h2.at hb) (by omega) (by omega)
  have hL4 := fun v (hb : Below w.heap.size w v) => rless_any a2 a1 n2 c2 n1 c1 q p v (h2.at hb) (h1.at hb) (by omega) (by omega)
  have hS := fun v (hb : Below w.heap.size w v) => same_any _ _ _ _ _ _ _ _ _ (h1.at hb) (h2.at hb)
  have h12 := less_one p q
  generalize com p q = m at *
  generalize lessP p q = x at *
  generalize lessP q p = y at *
  generalize decide (p = q) = z at *
  have HC1 := Hid.mk hC1
  have HC2 := Hid.mk hC2
  have HC3 := Hid.mk hC3
  have HL1 := Hid.mk hL1
  have HL2 := Hid.mk hL2
  have HL3 := Hid.mk hL3
  have HL4 := Hid.mk hL4
  have HS := Hid.mk hS
  have H12 := Hid.mk h12
  clear h1 h2 hC1 hC2 hC3 hL1 hL2 hL3 hL4 hS h12
  go_enter Try.func5, Try.ntmps5
  go_wp2_with fail
  refine (HC1.out _ (Below.refl _ _)).mono ?_
  rintro e w1 ⟨rfl, hb⟩
  have HB1 := Hid.mk hb
  clear hb
  go_wp2_with fail
  refine (HL1.out _ HB1.out).mono ?_
  rintro e w2 ⟨rfl, hb⟩
  have HB2 := Hid.mk (below_go HB1.out hb)
  clear hb
  go_wp2_with fail
  refine (HL2.out _ HB2.out).mono ?_
  rintro e w3 ⟨rfl, hb⟩
  have HB3 := Hid.mk (below_go HB2.out hb)
  clear hb
  go_wp2_with fail
  refine (alive_any _).mono ?_
  rintro e w4 ⟨rfl, hb⟩
  have HB4 := Hid.mk (below_go HB3.out hb)
  clear hb
  go_wp2_with fail
  refine (HC3.out _ HB4.out).mono ?_
  rintro e w5 ⟨rfl, hb⟩
  have HB5 := Hid.mk (below_go HB4.out hb)
  clear hb
  go_wp2_with fail
  refine (HC2.out _ HB5.out).mono ?_
  rintro e w6 ⟨rfl, hb⟩
  have HB6 := Hid.mk (below_go HB5.out hb)
  clear hb
  go_wp2_with fail
  refine (HL3.out _ HB6.out).mono ?_
  rintro e w7 ⟨rfl, hb⟩
  have HB7 := Hid.mk (below_go HB6.out hb)
  clear hb
  go_wp2_with fail
  refine (HL4.out _ HB7.out).mono ?_
  rintro e w8 ⟨rfl, hb⟩
  have HB8 := Hid.mk (below_go HB7.out hb)
  clear hb HB1 HB2 HB3 HB4 HB5 HB6 HB7
  have hx := H12.out
  cases x with
  | true =>
    have hz : z = false := by simpa using hx.symm
    subst hz
    clear hx
    go_wp2_with fail
    refine (HS.out _ HB8.out).mono ?_
    rintro e w9 ⟨rfl, rfl⟩
    go_wp2_with fail
    go_ret
    exact ⟨rfl, HB8.out⟩
  | false =>
    cases y with
    | true =>
      have hz : z = false := by simpa using hx.symm
      subst hz
      clear hx
      go_wp2_with fail
      refine (HS.out _ HB8.out).mono ?_
      rintro e w9 ⟨rfl, rfl⟩
      go_wp2_with fail
      go_ret
      exact ⟨rfl, HB8.out⟩
    | false =>
      have hz : z = true := by simpa using hx.symm
      subst hz
      clear hx
      go_wp2_with fail
      refine (HS.out _ HB8.out).mono ?_
      rintro e w9 ⟨rfl, rfl⟩
      go_wp2_with fail
      go_ret
      exact ⟨rfl, HB8.out⟩
end Go.Proofs.Ytgbkgfmmlmojhaa

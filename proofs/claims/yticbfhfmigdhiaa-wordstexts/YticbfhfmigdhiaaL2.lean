/- That WordsTexts answers true. -/
import Derived.Test.YticbfhfmigdhiaaV1
import Derived.Test.YticbfhfmigdhiaaT3
namespace Go.Proofs.Yticbfhfmigdhiaa
open Go.RowKit
set_option linter.unusedVariables false
set_option maxHeartbeats 1000000 in
theorem texts_law (x : Int) (s : ByteArray) (hx : 0 ≤ x ∧ x < 18446744073709551616) (hs : s.size ≤ maxLen) (w : World) :
    Calls Try.prog 6 #[.int .u64 x, .string s] w fun e w' => e = .returned (.bool true) ∧ Below w.heap.size w w' := by
  have H1 := Hid.mk (parse_any s hs)
  have H2 := Hid.mk (rparse_any s hs)
  have H3 := Hid.mk (print_any x hx.1 hx.2)
  have H4 := Hid.mk (rprint_any x hx.1 hx.2)
  generalize ps (sb s) = r at *
  obtain ⟨r1, r2⟩ := r
  generalize strOfNums (pr x.toNat) = t at *
  clear hs hx
  go_enter Try.func6, Try.ntmps6
  go_wp2_with fail
  refine (H1.out w).mono ?_
  rintro e w1 ⟨rfl, rfl⟩
  go_wp2_with fail
  refine (H2.out w1).mono ?_
  rintro e w2 ⟨rfl, hb2⟩
  have B2 := Hid.mk hb2
  clear hb2
  go_wp2_with fail
  refine (alive_any w2).mono ?_
  rintro e w3 ⟨rfl, hb3⟩
  have B3 := Hid.mk (B2.out.trans (hb3.mono B2.out.size))
  clear hb3
  go_wp2_with fail
  refine (H3.out w3).mono ?_
  rintro e w4 ⟨rfl, hb4⟩
  have B4 := Hid.mk (B3.out.trans (hb4.mono B3.out.size))
  clear hb4
  go_wp2_with fail
  refine (H4.out w4).mono ?_
  rintro e w5 ⟨rfl, hb5⟩
  have B5 := Hid.mk (B4.out.trans (hb5.mono B4.out.size))
  clear hb5
  go_wp2_with fail
  go_ret
  exact ⟨rfl, B5.out⟩
end Go.Proofs.Yticbfhfmigdhiaa

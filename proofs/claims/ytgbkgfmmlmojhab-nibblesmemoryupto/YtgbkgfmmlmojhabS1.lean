/- What same answers: are two lists of bytes the same? -/
import Derived.Test.YtgbkgfmmlmojhabP
import Derived.Test.YtgbkgfmmlmojhabB0
namespace Go.Proofs.Ytgbkgfmmlmojhab
open Go.RowKit
set_option linter.unusedVariables false
set_option maxHeartbeats 400000 in
theorem same_any (a1 a2 : Option Addr) (n1 c1 n2 c2 : Nat) (b1 b2 : List Int) (w : World) (h1 : Ag w a1 n1 c1 b1) (h2 : Ag w a2 n2 c2 b2) :
    Calls Try.prog 8 #[.slice a1 n1 c1, .slice a2 n2 c2] w fun e w' => e = .returned (.bool (decide (b1 = b2))) ∧ w' = w := by
  have k1 := conv_any h1.i
  have k2 := conv_any h2.i
  have HQ := Hid.mk (str_beq h1.b h2.b)
  generalize strOfNums b1 = s1 at k1 HQ
  generalize strOfNums b2 = s2 at k2 HQ
  clear h1 h2
  go_enter Try.func8, Try.ntmps8
  go_wp2_with fail
  go_ret
  refine ⟨?_, rfl⟩
  rw [← HQ.out]
  rfl
end Go.Proofs.Ytgbkgfmmlmojhab

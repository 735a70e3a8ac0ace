/- What Key answers, the program's and the document's. -/
import Derived.Test.YtbjjboicfghldabDoorG06
import Derived.Test.YtbjjboicfghldabDoorG07
namespace Go.Proofs.YtbjjboicfghldabDoor.Wo
open Go.RowKit
set_option linter.unusedVariables false
theorem key_any (x : Int) (hx0 : 0 ≤ x) (hx1 : x < 18446744073709551616) (w : World) :
    Calls Tryd.prog 26 #[.int .u64 x] w fun e w' => e = .returned (.slice (some ⟨w.heap.size, 0, none⟩) 8 8) ∧ Row w.heap.size w' (bek 8 x.toNat) ∧ Below w.heap.size w w' := by
  have h2 := lowBytes_any x 8 hx0 hx1 (by omega) w
  rw [show ((8 : Nat) : Int) = 8 from rfl] at h2
  generalize bek 8 x.toNat = bs at *
  go_enter Tryd.func26, Tryd.ntmps26
  go_wp2_with fail
  refine h2.mono ?_
  rintro e w2 ⟨rfl, hr, hb⟩
  have HR := Hid.mk hr
  have HB := Hid.mk hb
  clear hr hb h2
  go_wp2_with fail
  go_ret
  exact ⟨rfl, HR.out, HB.out⟩
end Go.Proofs.YtbjjboicfghldabDoor.Wo

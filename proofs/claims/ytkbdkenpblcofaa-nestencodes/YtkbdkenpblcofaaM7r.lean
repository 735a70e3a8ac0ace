/- What Right answers, of every item. -/
import Derived.Test.YtkbdkenpblcofaaM7
namespace Go.Proofs.Ytkbdkenpblcofaa
open Go.RowKit
set_option linter.unusedVariables false
theorem right_any (t : T) (x : V) (w : World) (hli : Lies w t x) :
    Calls Try.prog 13 #[.agg #[.bool x.l, .slice x.ba x.bn x.bc, .slice x.ia x.m x.ic]] w fun e w' => e = .returned (.bool (decide ((mP t).2 = 0))) ∧ Below w.heap.size w w' := by
  have HLI := Hid.mk hli
  clear hli
  go_enter Try.func13, Try.ntmps13
  go_wp2_with fail
  refine (measure_any t x _ (lies_mono ((Below.refl _ _).alloc (Nat.le_refl _) _) t x HLI.out)).mono ?_
  rintro e w1 ⟨rfl, hb⟩
  have hb1 : Below w.heap.size w w1 := ((Below.refl w.heap.size w).alloc (Nat.le_refl _) _).trans (hb.mono (by simp))
  obtain ⟨a, ha⟩ : ∃ a, (mP t).1 = a := ⟨_, rfl⟩
  obtain ⟨b, hb9⟩ : ∃ b, (mP t).2 = b := ⟨_, rfl⟩
  rw [ha, hb9]
  have HB := Hid.mk hb9
  clear ha hb9
  go_wp2_with fail
  go_ret
  refine ⟨?_, hb1⟩
  rw [HB.out]
  by_cases h : b = 0 <;> simp [h]
end Go.Proofs.Ytkbdkenpblcofaa

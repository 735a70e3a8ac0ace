/- What same answers: are two lists of bytes the same? -/
import Derived.Test.YtkbdkenpblcofabM3
import Derived.Lib.Bytes
namespace Go.Proofs.Ytkbdkenpblcofab
open Go.RowKit
set_option linter.unusedVariables false
theorem u8_inj {x y : Int} (hx : 0 ≤ x ∧ x < 256) (hy : 0 ≤ y ∧ y < 256) (h : UInt8.ofNat x.toNat = UInt8.ofNat y.toNat) : x = y := by
  have e := congrArg UInt8.toNat h
  rw [UInt8.toNat_ofNat', UInt8.toNat_ofNat', Nat.mod_eq_of_lt (by omega), Nat.mod_eq_of_lt (by omega)] at e
  omega
theorem map_inj : ∀ {a b : List Int}, (∀ x ∈ a, 0 ≤ x ∧ x < 256) → (∀ x ∈ b, 0 ≤ x ∧ x < 256) → (a.map fun n => UInt8.ofNat n.toNat) = (b.map fun n => UInt8.ofNat n.toNat) → a = b
  | [], [], _, _, _ => rfl
  | [], _ :: _, _, _, h => by simp at h
  | _ :: _, [], _, _, h => by simp at h
  | x :: a, y :: b, ha, hb, h => by
    rw [List.map_cons, List.map_cons] at h
    injection h with h1 h2
    rw [u8_inj (ha x (by simp)) (hb y (by simp)) h1, map_inj (fun z hz => ha z (List.mem_cons_of_mem _ hz)) (fun z hz => hb z (List.mem_cons_of_mem _ hz)) h2]
theorem strOf_eq {a b : List Int} (ha : ∀ x ∈ a, 0 ≤ x ∧ x < 256) (hb : ∀ x ∈ b, 0 ≤ x ∧ x < 256) : (strOfNums a).toList = (strOfNums b).toList ↔ a = b := by
  rw [Go.Lib.strOfNums_toList, Go.Lib.strOfNums_toList]
  exact ⟨map_inj ha hb, fun h => by rw [h]⟩
set_option maxHeartbeats 400000 in
theorem same_any (a1 a2 : Option Addr) (n1 c1 n2 c2 : Nat) (b1 b2 : List Int) (w : World) (h1 : Ag w a1 n1 c1 b1) (h2 : Ag w a2 n2 c2 b2) :
    Calls Try.prog 9 #[.slice a1 n1 c1, .slice a2 n2 c2] w fun e w' => e = .returned (.bool (decide (b1 = b2))) ∧ w' = w := by
  have k1 := conv_any h1.i
  have k2 := conv_any h2.i
  have hq : ((strOfNums b1).toList == (strOfNums b2).toList) = decide (b1 = b2) := by
    by_cases h : b1 = b2
    · simp [h]
    · have : ¬ (strOfNums b1).toList = (strOfNums b2).toList := fun e => h ((strOf_eq h1.b h2.b).1 e)
      simp [h, this]
  have HQ := Hid.mk hq
  generalize strOfNums b1 = s1 at k1 HQ
  generalize strOfNums b2 = s2 at k2 HQ
  clear h1 h2 hq
  go_enter Try.func9, Try.ntmps9
  go_wp2_with fail
  go_ret
  refine ⟨?_, rfl⟩
  rw [← HQ.out]
  rfl
end Go.Proofs.Ytkbdkenpblcofab

/- What alive answers. -/
import Derived.Test.YticbfhfmigdhiaaB2
import Derived.Test.YticbfhfmigdhiaaT2
namespace Go.Proofs.Yticbfhfmigdhiaa
open Go.RowKit
set_option linter.unusedVariables false
theorem aliveP : ps (sb { data := #[50, 53, 56] }) = (258, true) := by decide +kernel
theorem aliveW : wdP (bek 8 (258 : Int).toNat) = (258, true) := by decide +kernel
theorem aliveR : rdP [1, 2] = (258, true) := by decide +kernel
theorem aliveT : strOfNums (pr (7 : Int).toNat) = { data := #[55] } := by decide +kernel
set_option maxHeartbeats 1000000 in
theorem alive_any (w : World) : Calls Try.prog 19 #[] w fun e w' => e = .returned (.bool true) ∧ Below w.heap.size w w' := by
  have hp := parse_any { data := #[50, 53, 56] } (by decide) w
  rw [aliveP] at hp
  simp only at hp
  rw [show ((258 : Nat) : Int) = 258 from rfl] at hp
  have hk := key_any 258 (by omega) (by omega) w
  have HW : Hid (wdP (bek 8 (258 : Int).toNat) = (258, true)) := Hid.mk aliveW
  have HB := Hid.mk (bek_bd 8 (258 : Int).toNat)
  have HBL := Hid.mk (bek_len 8 (258 : Int).toNat)
  generalize bek 8 (258 : Int).toNat = K at *
  have hr : ∀ v : World, Ag (v.alloc (.cells #[.int .u8 1, .int .u8 2] 5)) (some ⟨v.heap.size, 0, none⟩) 2 2 [1, 2] := fun v => row_ag (show Row v.heap.size (v.alloc (.cells #[.int .u8 1, .int .u8 2] 5)) [1, 2] from heap_alloc_new _ _) rfl (by decide) (by omega)
  have HR := Hid.mk hr
  have hpr := print_any 7 (by omega) (by omega)
  rw [aliveT] at hpr
  have HP := Hid.mk hp
  have HK := Hid.mk hk
  have HPR := Hid.mk hpr
  clear hp hk hr hpr
  go_enter Try.func19, Try.ntmps19
  go_wp2_with fail
  refine HP.out.mono ?_
  rintro e w1 ⟨rfl, rfl⟩
  go_wp2_with fail
  refine HK.out.mono ?_
  rintro e w2 ⟨rfl, hrow, hb⟩
  have hw := word_any _ 8 8 K w2 (row_ag hrow HBL.out HB.out (by omega)) (by omega)
  rw [HW.out] at hw
  simp only at hw
  rw [show ((258 : Nat) : Int) = 258 from rfl] at hw
  have HWW := Hid.mk hw
  have HB2 := Hid.mk hb
  clear hw hb hrow
  go_wp2_with fail
  refine HWW.out.mono ?_
  rintro e w3 ⟨rfl, rfl⟩
  go_wp2_with fail
  have hrd := read_any _ 2 2 [1, 2] _ (HR.out w3) (by omega)
  rw [aliveR] at hrd
  simp only at hrd
  rw [show ((258 : Nat) : Int) = 258 from rfl] at hrd
  refine hrd.mono ?_
  clear hrd
  rintro e w4 ⟨rfl, rfl⟩
  have hb4 : Below w1.heap.size w1 (w3.alloc (.cells #[.int .u8 1, .int .u8 2] 5)) := HB2.out.alloc HB2.out.size _
  have HB4 := Hid.mk hb4
  clear hb4
  go_wp2_with fail
  refine (HPR.out _).mono ?_
  rintro e w5 ⟨rfl, hb5⟩
  have HB5 := Hid.mk (HB4.out.trans (hb5.mono HB4.out.size))
  clear hb5
  go_wp2_with fail
  go_ret
  exact ⟨rfl, HB5.out⟩
end Go.Proofs.Yticbfhfmigdhiaa

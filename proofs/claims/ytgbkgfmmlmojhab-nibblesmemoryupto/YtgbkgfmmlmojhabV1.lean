/- What alive answers. -/
import Derived.Test.YtgbkgfmmlmojhabC5
import Derived.Test.YtgbkgfmmlmojhabC6
import Derived.Test.YtgbkgfmmlmojhabC8
import Derived.Test.YtgbkgfmmlmojhabS1
namespace Go.Proofs.Ytgbkgfmmlmojhab
open Go.RowKit
set_option linter.unusedVariables false
theorem row2 (w : World) (x y : Int) (hx : 0 ≤ x ∧ x < 256) (hy : 0 ≤ y ∧ y < 256) : Ag (w.alloc (.cells #[.int .u8 x, .int .u8 y] 5)) (some ⟨w.heap.size, 0, none⟩) 2 2 [x, y] :=
  row_ag (show Row w.heap.size (w.alloc (.cells #[.int .u8 x, .int .u8 y] 5)) [x, y] from heap_alloc_new _ _) rfl (by intro z hz; simp at hz; omega) (by omega)
theorem row3 (w : World) (x y z : Int) (hx : 0 ≤ x ∧ x < 256) (hy : 0 ≤ y ∧ y < 256) (hz : 0 ≤ z ∧ z < 256) : Ag (w.alloc (.cells #[.int .u8 x, .int .u8 y, .int .u8 z] 5)) (some ⟨w.heap.size, 0, none⟩) 3 3 [x, y, z] :=
  row_ag (show Row w.heap.size (w.alloc (.cells #[.int .u8 x, .int .u8 y, .int .u8 z] 5)) [x, y, z] from heap_alloc_new _ _) rfl (by intro v hv; simp at hv; omega) (by omega)
theorem aliveP : packP [1, 2, 3] true = ([49, 35], 0) := by decide +kernel
theorem aliveU : unpP [0, 18] = ([1, 2], false, 0) := by decide +kernel
theorem aliveC : com [1, 2] [1, 3] = 1 := by decide +kernel
theorem aliveR : rightP [1, 2] = true := by decide +kernel
set_option maxHeartbeats 1000000 in
theorem alive_any (w : World) : Calls Try.prog 7 #[] w fun e w' => e = .returned (.bool true) ∧ Below w.heap.size w w' := by
  have h1 := pack_any _ 3 3 [1, 2, 3] true _ (row3 w 1 2 3 (by omega) (by omega) (by omega)) (by omega)
  rw [aliveP] at h1
  simp only at h1
  rw [show ((0 : Nat) : Int) = 0 from rfl] at h1
  have H1 := Hid.mk h1
  clear h1
  go_enter Try.func7, Try.ntmps7
  go_wp2_with fail
  refine H1.out.mono ?_
  rintro e w1 ⟨⟨a1, m1, rfl, hag1⟩, hb1⟩
  have hm1 := hag1.l
  have HA1 := Hid.mk hag1
  have HB1 := Hid.mk (below_go (below_new w _) hb1)
  have h2 := unpack_any _ 2 2 [0, 18] _ (row2 w1 0 18 (by omega) (by omega)) (by omega)
  rw [aliveU] at h2
  simp only at h2
  rw [show ((0 : Nat) : Int) = 0 from rfl] at h2
  have H2 := Hid.mk h2
  have hm2 : m1 = 2 := hm1.symm
  subst hm2
  clear h2 hag1 hb1 H1 hm1
  go_wp2_with fail
  refine H2.out.mono ?_
  rintro e w2 ⟨⟨a2, m2, rfl, hcut⟩, hb2⟩
  have hm2 := hcut.ag.l
  have hb2' := below_go (below_new w1 (.cells #[.int .u8 0, .int .u8 18] 5)) hb2
  have HA2 := Hid.mk hcut.ag
  have HA12 := Hid.mk (HA1.out.at hb2')
  have HB2 := Hid.mk (below_go HB1.out hb2')
  have hm3 : m2 = 2 := hm2.symm
  subst hm3
  clear hcut hb2 hb2' H2 hm2 HA1
  have h3 := same_any _ _ _ _ _ _ _ _ _ (HA12.out.at (below_new w2 (.cells #[.int .u8 49, .int .u8 35] 5))) (row2 w2 49 35 (by omega) (by omega))
  rw [decide_eq_true rfl] at h3
  have H3 := Hid.mk h3
  clear h3
  go_wp2_with fail
  refine H3.out.mono ?_
  rintro e w3 ⟨rfl, rfl⟩
  clear H3
  obtain ⟨W3, hW3⟩ : ∃ W, w2.alloc (.cells #[.int .u8 49, .int .u8 35] 5) = W := ⟨_, rfl⟩
  have HA3 : Hid (Ag W3 a2 2 2 [1, 2]) := Hid.mk (by rw [← hW3]; exact HA2.out.at (below_new _ _))
  have HB3 : Hid (Below w.heap.size w W3) := Hid.mk (by rw [← hW3]; exact below_go HB2.out (below_new _ _))
  rw [hW3]
  have h4 := same_any _ _ _ _ _ _ _ _ _ (HA3.out.at (below_new W3 (.cells #[.int .u8 1, .int .u8 2] 5))) (row2 W3 1 2 (by omega) (by omega))
  rw [decide_eq_true rfl] at h4
  have H4 := Hid.mk h4
  clear h4 hW3
  go_wp2_with fail
  refine H4.out.mono ?_
  rintro e w4 ⟨rfl, rfl⟩
  clear H4
  obtain ⟨W4, hW4⟩ : ∃ W, W3.alloc (.cells #[.int .u8 1, .int .u8 2] 5) = W := ⟨_, rfl⟩
  have HA4 : Hid (Ag W4 a2 2 2 [1, 2]) := Hid.mk (by rw [← hW4]; exact HA3.out.at (below_new _ _))
  have HB4 : Hid (Below w.heap.size w W4) := Hid.mk (by rw [← hW4]; exact below_go HB3.out (below_new _ _))
  rw [hW4]
  have h5 := right_any _ _ _ _ W4 HA4.out (by omega)
  rw [aliveR] at h5
  have H5 := Hid.mk h5
  clear h5 hW4
  go_wp2_with fail
  refine H5.out.mono ?_
  rintro e w5 ⟨rfl, rfl⟩
  clear H5
  have h6 := common_any _ _ _ _ _ _ _ _ _ (HA4.out.at (below_new w5 (.cells #[.int .u8 1, .int .u8 3] 5))) (row2 w5 1 3 (by omega) (by omega)) (by omega) (by omega)
  rw [aliveC] at h6
  rw [show ((1 : Nat) : Int) = 1 from rfl] at h6
  have H6 := Hid.mk h6
  clear h6
  go_wp2_with fail
  refine H6.out.mono ?_
  rintro e w6 ⟨rfl, hb6⟩
  have HB6 := Hid.mk (below_go (below_go HB4.out (below_new _ _)) hb6)
  clear hb6 H6
  go_wp2_with fail
  go_ret
  exact ⟨rfl, HB6.out⟩
end Go.Proofs.Ytgbkgfmmlmojhab

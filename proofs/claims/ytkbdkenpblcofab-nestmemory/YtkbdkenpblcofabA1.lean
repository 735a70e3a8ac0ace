/- What alive answers. -/
import Derived.Test.YtkbdkenpblcofabR8
import Derived.Lib.SlBytesConst
namespace Go.Proofs.Ytkbdkenpblcofab
open Go.RowKit
set_option linter.unusedVariables false
def tA : T := .mk true [] [.mk false [99, 97, 116] [], .mk false [] []]
theorem encA : encP tA = ([197, 131, 99, 97, 116, 128], 0) := by decide +kernel
theorem decA : decP [194, 129, 128] = .ok (.mk true [] [.mk false [128] []]) := by rfl
theorem liesA (w : World) : Lies ((w.alloc (.cells #[.int .u8 99, .int .u8 97, .int .u8 116] 5 (3, 4))).alloc (.cells #[.bool false, .slice (some ⟨w.heap.size, 0, none⟩) 3 3, .slice none 0 0, .bool false, .slice none 0 0, .slice none 0 0] 25)) tA ⟨true, none, 0, 0, some ⟨w.heap.size + 1, 0, none⟩, 2, 2⟩ := by
  obtain ⟨A, hA⟩ : ∃ A : Obj, Obj.cells #[.int .u8 99, .int .u8 97, .int .u8 116] 5 (3, 4) = A := ⟨_, rfl⟩
  obtain ⟨B, hB⟩ : ∃ B : Obj, Obj.cells #[.bool false, .slice (some ⟨w.heap.size, 0, none⟩) 3 3, .slice none 0 0, .bool false, .slice none 0 0, .slice none 0 0] 25 = B := ⟨_, rfl⟩
  rw [hA, hB]
  have h1 : ((w.alloc A).alloc B).heap[w.heap.size + 1]? = some B := heap_alloc2_new w A B
  have h0 : ((w.alloc A).alloc B).heap[w.heap.size]? = some A := (Below.heap_alloc _ _ _ (by simp)).trans (heap_alloc_new _ _)
  obtain ⟨v, hv⟩ : ∃ v, (w.alloc A).alloc B = v := ⟨_, rfl⟩
  rw [hv] at h0 h1 ⊢
  clear hv
  subst hA hB
  have nil0 : ∀ v : World, Ag v none 0 0 [] := fun v => ⟨.inl ⟨rfl, rfl⟩, fun _ => ⟨rfl, rfl⟩, rfl, fun x hx => by cases hx⟩
  refine lies_eq.2 ⟨rfl, nil0 v, rfl, Nat.le_refl _, by show 2 ≤ maxLen; unfold maxLen; omega, ⟨by show 0 ≤ 140737488351232; omega, by show 2 ≤ 140737488351232; omega⟩, ?_⟩
  refine liesAll_cons.2 ⟨⟨w.heap.size + 1, 0, ⟨false, some ⟨w.heap.size, 0, none⟩, 3, 3, none, 0, 0⟩, rfl, by simp [World.cell?, h1], by simp [World.cell?, h1], by simp [World.cell?, h1], ?_⟩, liesAll_cons.2 ⟨⟨w.heap.size + 1, 0, ⟨false, none, 0, 0, none, 0, 0⟩, rfl, by simp [World.cell?, h1], by simp [World.cell?, h1], by simp [World.cell?, h1], ?_⟩, liesAll_nil⟩⟩
  · refine lies_eq.2 ⟨rfl, ⟨.inr ⟨w.heap.size, 0, rfl, rfl, by show 0 < 3; omega, Nat.le_refl _, by show 3 ≤ maxLen; unfold maxLen; omega, fun j hj => ?_⟩, (fun h => by cases h), rfl, by decide⟩, rfl, Nat.le_refl _, by show 0 ≤ maxLen; unfold maxLen; omega, ⟨by show 3 ≤ 140737488351232; omega, by show 0 ≤ 140737488351232; omega⟩, liesAll_nil⟩
    have : j = 0 ∨ j = 1 ∨ j = 2 := by simp at hj; omega
    rcases this with rfl | rfl | rfl <;> simp [World.cell?, h0]
  · exact lies_eq.2 ⟨rfl, nil0 v, rfl, Nat.le_refl _, by show 0 ≤ maxLen; unfold maxLen; omega, ⟨by show 0 ≤ 140737488351232; omega, by show 0 ≤ 140737488351232; omega⟩, liesAll_nil⟩
set_option maxHeartbeats 1000000 in
theorem alive_any (w : World) : Calls Try.prog 8 #[] w fun e w' => e = .returned (.bool true) ∧ Below w.heap.size w w' := by
  have hcv := Go.Lib.run_convert_bytes_const (P := Try.prog) w 23 5 #[.int .u8 99, .int .u8 97, .int .u8 116] 3 3 Try.underlying23 Try.underlying5
  go_enter Try.func8, Try.ntmps8
  go_wp2_with fail
  have hcal := encode_any tA _ _ (liesA w)
  rw [encA] at hcal
  simp only at hcal
  rw [show ((0 : Nat) : Int) = 0 from rfl] at hcal
  refine hcal.mono ?_
  clear hcal hcv
  rintro e w1 ⟨⟨a1, n1, c1, rfl, hag1⟩, hb1⟩
  have hbw : Below w.heap.size w w1 := (((Below.refl w.heap.size w).alloc (Nat.le_refl _) _).alloc (by simp) _).trans (hb1.mono (by simp; omega))
  have HAG := Hid.mk hag1
  have HBW := Hid.mk hbw
  clear hb1 hag1 hbw
  go_wp2_with fail
  have hrow : Row w1.heap.size (w1.alloc (.cells #[.int .u8 194, .int .u8 129, .int .u8 128] 5)) [194, 129, 128] := heap_alloc_new _ _
  have hcal := decode_any _ 3 3 [194, 129, 128] _ (row_ag hrow rfl (by decide) (by omega)) (by omega)
  rw [decA] at hcal
  refine hcal.mono ?_
  clear hcal hrow
  rintro e w2 ⟨hb2, y, rfl, hy⟩
  have hb3 : Below w1.heap.size w1 w2 := ((Below.refl w1.heap.size w1).alloc (Nat.le_refl _) _).trans (hb2.mono (by simp))
  have hli := liesP_lies _ _ hy
  obtain ⟨q1, q2, q3, q4, q5, q6, q7⟩ := lies_eq.1 hli
  obtain ⟨⟨gi, off, z, z1, z2, z3, z4, z5⟩, _⟩ := liesAll_cons.1 q7
  obtain ⟨_, zb, _⟩ := lies_eq.1 z5
  obtain ⟨yl, yba, ybn, ybc, yia, ym, yic⟩ := y
  simp only at q1 q3 z1
  have q3' : ym = 1 := q3
  subst q1 q3' z1
  have hag2 := HAG.out.at hb3
  have hcv1 := fun o => conv_any (hag2.i.mono ((Below.refl w2.heap.size w2).alloc (Nat.le_refl _) o))
  have hcv2 := fun o => conv_any (zb.i.mono ((Below.refl w2.heap.size w2).alloc (Nat.le_refl _) o))
  rw [show off + 0 * 3 + 1 = off + 1 from by omega] at z3
  have ca1 := cell_alloc z3
  have hs1 : (strOfNums [197, 131, 99, 97, 116, 128]).toList = [197, 131, 99, 97, 116, 128] := by decide +kernel
  have hs2 : (strOfNums [128]).toList = [128] := by decide +kernel
  have HBB := Hid.mk (HBW.out.trans (hb3.mono HBW.out.size))
  clear hb2 hb3 hy hli q2 q4 q5 q6 q7 z5 zb z2 z3 z4 hag2 q3
  go_wp2_with fail
  go_ret
  exact ⟨rfl, HBB.out.alloc HBB.out.size _⟩
end Go.Proofs.Ytkbdkenpblcofab

/- What Print answers. -/
import Derived.Test.YtbjjboicfghldabDoorG15
namespace Go.Proofs.YtbjjboicfghldabDoor.Wo
open Go.RowKit
set_option linter.unusedVariables false
/-- Block g is an array of bytes. -/
def RowA (g : Nat) (w : World) (R : List Int) : Prop := w.heap[g]? = some (.cells (R.map (Value.int .u8)).toArray 86)
theorem RowA.set {g : Nat} {w : World} {R : List Int} (h : RowA g w R) (i : Nat) (x : Int) : RowA g (w.setCell ⟨g, i, none⟩ (.int .u8 x)) (R.set i x) := by
  have := heap_setCell_same w g i _ 86 (.int .u8 x) h
  unfold RowA
  rw [this]
  congr 2
  rw [List.setIfInBounds_toArray, List.map_set]
theorem RowA.cell {g : Nat} {w : World} {R : List Int} (h : RowA g w R) {i : Nat} (hi : i < R.length) : w.cell? ⟨g, i, none⟩ = some (.int .u8 (R.getD i 0)) := by
  rw [cell_of_row _ _ _ _ _ _ h]
  simp [List.getElem?_eq_getElem hi]
theorem RowA.frozen {g : Nat} {w : World} {R : List Int} (h : RowA g w R) (i : Nat) : w.frozen? ⟨g, i, none⟩ = false := frozen_of_row _ _ _ _ _ h
theorem tail_set (k : Nat) (suf : List Int) (v : Int) (hk : k < 20) : (List.replicate (20 - k) (0 : Int) ++ suf).set (19 - k) v = List.replicate (20 - (k + 1)) 0 ++ (v :: suf) := by
  rw [show 20 - k = (19 - k) + 1 from by omega, show 20 - (k + 1) = 19 - k from by omega, List.replicate_succ', List.append_assoc, List.set_append_right _ _ (by simp)]
  simp
structure Pt (x : Int) (w v : World) (k : Nat) (y : Int) (suf : List Int) : Prop where
  k20 : k ≤ 20
  y0 : 0 ≤ y
  y1 : y < 18446744073709551616
  yk : y.toNat < 10 ^ (20 - k)
  len : suf.length = k
  first : k = 0 → y = x
  text : 0 < k → pr x.toNat = dg y.toNat ++ suf
  row : RowA w.heap.size v (List.replicate (20 - k) 0 ++ suf)
  bel : Below w.heap.size w v
  bd : ∀ z ∈ suf, 0 ≤ z ∧ z < 256
theorem Pt.ends {x : Int} {w v : World} {k : Nat} {suf : List Int} (h : Pt x w v k 0 suf) (hk : 0 < k) : pr x.toNat = suf ∧ In0 v (some ⟨w.heap.size, 20 - k, none⟩) k k suf := by
  have h1 := h.text hk
  rw [show (0 : Int).toNat = 0 from rfl, dg_zero, List.nil_append] at h1
  have hl := h.len
  have hk2 := h.k20
  refine ⟨h1, .inr ⟨w.heap.size, 20 - k, rfl, hl, hk, Nat.le_refl _, by unfold maxLen; omega, fun j hj => ?_⟩⟩
  rw [h.row.cell (i := 20 - k + j) (by rw [List.length_append, List.length_replicate]; omega)]
  rw [List.getD, List.getElem?_append_right (by rw [List.length_replicate]; omega), List.length_replicate, show 20 - k + j - (20 - k) = j from by omega]
  rfl
theorem Pt.next {x : Int} {w v : World} {k : Nat} {y : Int} {suf : List Int} (h : Pt x w v k y suf) (hk : k < 20) (hy : ¬ (y = 0 ∧ 0 < k)) : Pt x w (v.setCell ⟨w.heap.size, 19 - k, none⟩ (.int .u8 (48 + y % 10))) (k + 1) (y / 10) ((48 + y % 10) :: suf) := by
  have y0 := h.y0
  have y1 := h.y1
  refine ⟨by omega, by omega, by omega, ?_, by rw [List.length_cons, h.len], (fun h => by omega), fun _ => ?_, ?_, h.bel.setCell (Nat.le_refl _) _, ?_⟩
  · have e := h.yk
    rw [show 20 - k = (20 - (k + 1)) + 1 from by omega, Nat.pow_succ] at e
    rw [show (y / 10).toNat = y.toNat / 10 from by omega]
    exact (Nat.div_lt_iff_lt_mul (by decide)).2 e
  · by_cases h0 : y = 0
    · have hk0 : k = 0 := by omega
      have e := h.first hk0
      have hl : suf = [] := List.eq_nil_of_length_eq_zero (by rw [h.len, hk0])
      rw [← e, h0, hl, show (0 / 10 : Int).toNat = 0 from rfl, show (0 : Int).toNat = 0 from rfl, dg_zero]
      rfl
    · have e : dg y.toNat = dg (y / 10).toNat ++ [48 + y % 10] := by
        rw [dg_pos (n := y.toNat) (by omega), show y.toNat / 10 = (y / 10).toNat from by omega, show ((48 + y.toNat % 10 : Nat) : Int) = 48 + y % 10 from by omega]
      have e2 : pr x.toNat = dg y.toNat ++ suf := by
        by_cases hk0 : k = 0
        · have hl : suf = [] := List.eq_nil_of_length_eq_zero (by rw [h.len, hk0])
          rw [hl, List.append_nil, ← h.first hk0]
          unfold pr
          rw [if_neg (by omega)]
        · exact h.text (by omega)
      rw [e2, e, List.append_assoc]
      rfl
  · have := h.row.set (19 - k) (48 + y % 10)
    rwa [tail_set k suf _ hk] at this
  · intro z hz
    rcases List.mem_cons.1 hz with rfl | hz
    · omega
    · exact h.bd z hz
theorem lenA : Tryd.prog.arrayLen 86 = 20 := by kernel_rfl
theorem elemA : Tryd.prog.elem 86 = 5 := by kernel_rfl
theorem sizeOf5 (w : World) : (sizeOf 5).run Tryd.prog w = .ok 1 w := by
  simp [sizeOf]
  rfl
theorem cut_any (w : World) (g k : Nat) (hk : 0 < k) (hk2 : k ≤ 20) : (Instr.sliceAt 86 (.pointer (some ⟨g, 0, none⟩)) (some (.int .i64 (20 - k))) none none).run Tryd.prog w = .ok (.slice (some ⟨g, 20 - k, none⟩) k k) w := by
  rw [run_sliceAt_array_l (P := Tryd.prog) w 86 ⟨g, 0, none⟩ (by rw [lenA, elemA]; exact Tryd.underlying86) .i64 _ (by omega) (by rw [lenA]; omega), elemA, lenA, sizeOf5]
  simp only [Result.andThen, slicedAt]
  rw [if_neg (by omega), Nat.mul_one, addr_add, Nat.zero_add, show ((20 : Int) - k).toNat = 20 - k from by omega, show 20 - (20 - k) = k from by omega]
set_option maxHeartbeats 1000000 in
theorem print_any (x : Int) (hx0 : 0 ≤ x) (hx1 : x < 18446744073709551616) (w : World) :
    Calls Tryd.prog 38 #[.int .u64 x] w fun e w' => e = .returned (.string (strOfNums (pr x.toNat))) ∧ Below w.heap.size w w' := by
  go_enter Tryd.func38, Tryd.ntmps38
  go_wp2_with fail
  go_loopw [0, 4, 6] (fun p s i v => ∃ (k : Nat) (y : Int) (suf : List Int), p = .int .u64 y ∧ s = .int .i64 (20 - k : Int) ∧ i = .int .i64 k ∧ Pt x w v k y suf) (fun _ _ i _ => 20 - (intOf i).toNat)
  case atStart => exact ⟨0, x, [], rfl, rfl, rfl, ⟨by omega, hx0, hx1, by show x.toNat < 100000000000000000000; omega, rfl, fun _ => rfl, fun h => by omega, heap_alloc_new _ _, (Below.refl _ _).alloc (Nat.le_refl _) _, fun z hz => by cases hz⟩⟩
  case round =>
    obtain ⟨k, y, suf, rfl, rfl, rfl, P⟩ := hrel
    have y0 := P.y0
    have y1 := P.y1
    have k20 := P.k20
    by_cases hk : k < 20
    · have hki : (k : Int) < 20 := by omega
      by_cases hb : y = 0 ∧ 0 < k
      · obtain ⟨rfl, hk0⟩ := hb
        obtain ⟨e1, i1⟩ := P.ends hk0
        have c1 := conv_any i1
        have hk1 : (k : Int) > 0 := by omega
        have HP := Hid.mk P.bel
        have HE := Hid.mk e1
        clear P e1 i1 y0 y1
        have hct := cut_any wr w.heap.size k (by omega) (by omega)
        go_wp2_with fail
        go_ret
        exact ⟨by rw [HE.out]; rfl, HP.out⟩
      · have P2 := P.next hk hb
        have hcell := P.row.cell (i := 19 - k) (by rw [List.length_append, List.length_replicate, P.len]; omega)
        have hfz := P.row.frozen (19 - k)
        generalize (List.replicate (20 - k) (0 : Int) ++ suf).getD (19 - k) 0 = old at hcell
        have HP := Hid.mk P2
        have hto : ((20 : Int) - k - 1).toNat = 19 - k := by omega
        clear P P2
        by_cases hy : y = 0
        · subst hy
          have hk0 : k = 0 := by omega
          subst hk0
          clear hb
          go_wp2_with fail
          exact ⟨⟨1, 0, _, rfl, rfl, rfl, HP.out⟩, by simp [intOf]⟩
        · have hyb : (y == 0) = false := by rw [beq_eq_false_iff_ne]; exact hy
          clear hb
          go_wp2_with fail
          exact ⟨⟨k + 1, y / 10, _, rfl, by rw [show ((k + 1 : Nat) : Int) = (k : Int) + 1 from rfl, Int.sub_sub], by simp, HP.out⟩, by simp [intOf]; omega⟩
    · have hki : ¬ (k : Int) < 20 := by omega
      have hk2 : k = 20 := by omega
      subst hk2
      have hyk := P.yk
      have hy : y = 0 := by
        rw [Nat.sub_self, Nat.pow_zero] at hyk
        omega
      subst hy
      obtain ⟨e1, i1⟩ := P.ends (by omega)
      have c1 := conv_any i1
      have HP := Hid.mk P.bel
      have HE := Hid.mk e1
      clear P e1 i1 y0 y1 hyk
      go_wp2_with fail
      go_ret
      exact ⟨by rw [HE.out]; rfl, HP.out⟩
end Go.Proofs.YtbjjboicfghldabDoor.Wo

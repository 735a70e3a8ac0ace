/- What putHead writes. -/
import Derived.Test.YtkbdkenpblcofabM3
namespace Go.Proofs.Ytkbdkenpblcofab
open Go.RowKit
set_option linter.unusedVariables false
/-- Block g is a row of bytes. -/
def Row (g : Nat) (w : World) (R : List Int) : Prop := w.heap[g]? = some (.cells (R.map (Value.int .u8)).toArray 5)
theorem Row.set {g : Nat} {w : World} {R : List Int} (h : Row g w R) (i : Nat) (x : Int) : Row g (w.setCell ⟨g, i, none⟩ (.int .u8 x)) (R.set i x) := by
  have := heap_setCell_same w g i _ 5 (.int .u8 x) h
  unfold Row
  rw [this]
  congr 2
  rw [List.setIfInBounds_toArray, List.map_set]
theorem Row.cell {g : Nat} {w : World} {R : List Int} (h : Row g w R) {i : Nat} (hi : i < R.length) : w.cell? ⟨g, i, none⟩ = some (.int .u8 (R.getD i 0)) := by
  rw [cell_of_row _ _ _ _ _ _ h]
  simp [List.getElem?_eq_getElem hi]
theorem Row.frozen {g : Nat} {w : World} {R : List Int} (h : Row g w R) (i : Nat) : w.frozen? ⟨g, i, none⟩ = false := frozen_of_row _ _ _ _ _ h
theorem set_mid (R tl : List Int) (a e : Nat) (v : Int) (ha : a + 1 ≤ R.length) : (R.take (a + 1) ++ tl ++ R.drop e).set a v = R.take a ++ (v :: tl) ++ R.drop e := by
  have h1 : R.take (a + 1) = R.take a ++ [R[a]] := by rw [List.take_add_one, List.getElem?_eq_getElem (by omega)]; rfl
  have h2 : (R.take a).length = a := by rw [List.length_take]; omega
  rw [h1, List.append_assoc, List.append_assoc, List.set_append_right _ _ (by omega), h2, Nat.sub_self]
  simp
set_option maxHeartbeats 1000000 in
theorem putHead_any (g at_ S n b : Nat) (R : List Int) (w : World) (hR : Row g w R) (hS : R.length = S) (hat : at_ ≤ S) (hS2 : S ≤ 4611686018427387904) (hn : n < 16777216) (hb : b = 128 ∨ b = 192) (hfit : (hd b n).length ≤ at_) :
    Calls Try.prog 24 #[.slice (some ⟨g, 0, none⟩) S S, .int .i64 at_, .int .u8 b, .int .i64 n] w fun e w' => e = .returned (.int .i64 (at_ - (hd b n).length : Nat)) ∧ Row g w' (R.take (at_ - (hd b n).length) ++ hd b n ++ R.drop at_) ∧ Touch g w w' := by
  have hlen := hd_len b n
  have hb2 : b ≤ 192 := by omega
  by_cases h5 : n ≤ 55
  · have e1 : hd b n = [((b + n : Nat) : Int)] := by rw [hd, if_pos h5]
    rw [e1] at hfit ⊢
    simp only [List.length_singleton] at hfit ⊢
    obtain ⟨a, rfl⟩ : ∃ a, at_ = a + 1 := ⟨at_ - 1, by omega⟩
    have hcell := hR.cell (i := a) (by omega)
    have hfz := hR.frozen a
    have hset := set_mid R [] a (a + 1) ((b + n : Nat) : Int) (by omega)
    rw [List.append_nil, List.take_append_drop] at hset
    have hrow := hR.set a ((b + n : Nat) : Int)
    rw [hset] at hrow
    have HR := Hid.mk hrow
    have h55 : (n : Int) ≤ 55 := by omega
    clear hset hrow hR hlen e1 hfit hb
    go_enter Try.func24, Try.ntmps24
    go_wp2_with fail
    go_ret
    exact ⟨by simp, by simpa using HR.out, Touch.setCell _ _ _ _⟩
  · have e1 : hd b n = ((b + 55 + nb n : Nat) : Int) :: be n := by rw [hd, if_neg h5]
    have hnb := nb_le3 hn
    have hnb1 := nb_ge (n := n) (by omega)
    rw [if_pos (by omega)] at hlen
    rw [e1] at hlen hfit ⊢
    rw [hlen] at hfit ⊢
    obtain ⟨a0, rfl⟩ : ∃ a0, at_ = a0 + (1 + nb n) := ⟨at_ - (1 + nb n), by omega⟩
    rw [show a0 + (1 + nb n) - (1 + nb n) = a0 from by omega]
    obtain ⟨nbn, hnbn⟩ : ∃ k, nb n = k := ⟨_, rfl⟩
    obtain ⟨bn, hbn⟩ : ∃ k, be n = k := ⟨_, rfl⟩
    rw [hnbn] at hnb hnb1 hat ⊢
    rw [hbn]
    have HNB := Hid.mk hnbn
    have HBE := Hid.mk hbn
    have HR := Hid.mk hR
    have h55 : ¬ (n : Int) ≤ 55 := by omega
    clear hR hlen e1 hfit hb hnbn hbn
    go_enter Try.func24, Try.ntmps24
    go_wp2_with fail
    go_loopw [1, 9, 10] (fun p c q v => ∃ (a k r : Nat) (tl : List Int), p = .int .i64 a ∧ c = .int .i64 k ∧ q = .int .i64 r ∧ r ≤ n ∧ a = a0 + 1 + nb r ∧ k + nb r = nbn ∧ bn = be r ++ tl ∧ Row g v (R.take a ++ tl ++ R.drop (a0 + (1 + nbn))) ∧ Touch g w v) (fun _ _ q _ => (intOf q).toNat)
    case atStart => exact ⟨a0 + (1 + nbn), 0, n, [], rfl, rfl, rfl, Nat.le_refl _, by rw [HNB.out]; omega, by rw [HNB.out]; omega, by rw [List.append_nil]; exact HBE.out.symm, by rw [List.append_nil, List.take_append_drop]; exact HR.out, Touch.refl _ _⟩
    case round =>
      obtain ⟨a, k, r, tl, rfl, rfl, rfl, hrn, ha, hk, hbe, hrow, ht⟩ := hrel
      by_cases h0 : r = 0
      · subst h0
        rw [nb_zero] at ha hk
        rw [be_zero, List.nil_append] at hbe
        have ha' : a = a0 + 1 := by omega
        have hk' : k = nbn := by omega
        subst ha' hk' hbe
        have htl : (R.take (a0 + 1)).length = a0 + 1 := by rw [List.length_take]; omega
        have hcell := hrow.cell (i := a0) (by simp; omega)
        have hfz := hrow.frozen a0
        have hrow2 := hrow.set a0 ((b + 55 + k : Nat) : Int)
        rw [set_mid _ _ _ _ _ (by omega)] at hrow2
        have HRW := Hid.mk hrow2
        have HT := Hid.mk ht
        clear hrow hrow2 ht htl ha hk
        go_wp2_with fail
        go_ret
        exact ⟨by simp, by simpa using HRW.out, HT.out.trans (Touch.setCell _ _ _ _)⟩
      · rw [nb_pos (by omega)] at ha hk
        rw [be_pos (by omega)] at hbe
        obtain ⟨a', rfl⟩ : ∃ a', a = a' + 1 := ⟨a - 1, by omega⟩
        have hr0 : (0 : Int) < r := by omega
        have htl : (R.take (a' + 1)).length = a' + 1 := by rw [List.length_take]; omega
        have hcell := hrow.cell (i := a') (by simp; omega)
        have hfz := hrow.frozen a'
        have hrow2 := hrow.set a' ((r % 256 : Nat) : Int)
        rw [set_mid _ _ _ _ _ (by omega)] at hrow2
        have HRW := Hid.mk hrow2
        have HT := Hid.mk ht
        have HBB := Hid.mk hbe
        have HAA := Hid.mk ha
        have HKK := Hid.mk hk
        have hka : a' + 1 ≤ S := by omega
        have hkb : k < 10 := by omega
        have hrb : r < 16777216 := by omega
        clear hrow hrow2 ht htl ha hk hbe
        go_wp2_with fail
        refine ⟨⟨a', k + 1, r / 256, ((r % 256 : Nat) : Int) :: tl, rfl, by simp, by simp, by omega, by have := HAA.out; omega, by have := HKK.out; omega, by rw [HBB.out, List.append_assoc]; rfl, by simpa using HRW.out, HT.out.trans (Touch.setCell _ _ _ _)⟩, ?_⟩
        simp [intOf]
        omega
end Go.Proofs.Ytkbdkenpblcofab

/- What the document's Of answers. -/
import Derived.Test.YtgbkgfmmlmojhabC3
namespace Go.Proofs.Ytgbkgfmmlmojhab
open Go.RowKit
set_option linter.unusedVariables false
theorem nib_snoc2 (b : List Int) (j : Nat) (hj : j < b.length) : nib (b.take (j + 1)) = (nib (b.take j) ++ [b.getD j 0 / 16]) ++ [b.getD j 0 % 16] := by
  rw [nib_take hj, List.append_assoc]; rfl
set_option maxHeartbeats 1000000 in
theorem rof_any (a : Option Addr) (n c : Nat) (b : List Int) (w : World) (h : Ag w a n c b) (hn : 2 * n ≤ 140737488355328) :
    Calls Try.prog 9 #[.slice a n c] w fun e w' => (∃ a' c', e = .returned (.slice a' (2 * n) c') ∧ 2 * n ≤ c' ∧ c' ≤ maxLen ∧ Ag w' a' (2 * n) c' (nib b)) ∧ Below w.heap.size w w' := by
  have HL := Hid.mk h.l
  have HC := Hid.mk (fun h0 => ag_head h h0)
  have HB := Hid.mk h.b
  clear h
  go_enter Try.func9, Try.ntmps9
  go_wp2_with fail
  go_loopw [3, 4] (fun v i w' => ∃ j : Nat, j ≤ n ∧ i = .int .i64 j ∧ OwnB w' w.heap.size v (nib (b.take j)) ∧ Below w.heap.size w w') (fun _ i _ => n - (intOf i).toNat)
  case atStart => exact ⟨0, by omega, rfl, ownB_nil _ _, Below.refl _ _⟩
  case round =>
    obtain ⟨j, hj, rfl, hown, hb⟩ := hrel
    have HO := Hid.mk hown
    have HBW := Hid.mk hb
    clear hown hb
    by_cases hlt : j < n
    · obtain ⟨g, off, rfl, hnc, hcm, hcs⟩ := HC.out (by omega)
      unfold maxLen at hcm
      have hcell0 := hcs j hlt
      have hcell := (HBW.out.cell (p := ⟨g, off + j, none⟩) (block_lt_of_cell hcell0)).trans hcell0
      have hjb : j < b.length := by have := HL.out; omega
      have hx := HB.out _ (getD_mem hjb)
      have HN := Hid.mk (nib_snoc2 b j hjb)
      have HNL : Hid ((nib (b.take j)).length = 2 * j) := Hid.mk (by rw [nib_len, List.length_take]; omega)
      generalize b.getD j 0 = x at hcell hcell0 hx HN
      obtain ⟨hx0, hx1⟩ := hx
      have hji : (j : Int) < n := by omega
      have HO2 : Hid (∀ o : Obj, OwnB (wr.alloc o) w.heap.size u3 (nib (b.take j))) := Hid.mk fun o => OwnB.alloc HO.out o
      have HSZ := Hid.mk HBW.out.size
      have HC0 := Hid.mk hcell0
      clear HO hcs hjb hcell0
      go_wp2_with (first
        | (at_builtin; refine app_any rfl (.tmp 11) (.tmp 17) rfl w.heap.size _ (nib (b.take j)) rfl (HO2.out _) (some ⟨wr.heap.size, 0, none⟩) 1 1 [x / 16] rfl (in0_one wr _) (fun h => by cases h) rfl (by rw [HNL.out]; omega) (by have := HSZ.out; simp; omega) ?_; intro v1 w1 o1 hb1; have HO1 := Hid.mk o1; have HB1 := Hid.mk ((HBW.out.alloc HSZ.out _).trans hb1); clear o1 hb1; have hcell1 := (HB1.out.cell (p := ⟨g, off + j, none⟩) (block_lt_of_cell HC0.out)).trans HC0.out)
        | (at_builtin; refine app_any rfl (.tmp 19) (.tmp 25) rfl w.heap.size _ (nib (b.take j) ++ [x / 16]) rfl (OwnB.alloc HO1.out _) (some ⟨w1.heap.size, 0, none⟩) 1 1 [x % 16] rfl (in0_one w1 _) (fun h => by cases h) rfl (by rw [List.length_append, HNL.out]; simp; omega) (by have := HB1.out.size; simp; omega) ?_; intro v2 w2 o2 hb2; rw [← HN.out] at o2; have HO3 := Hid.mk o2; have HB2 := Hid.mk ((HB1.out.alloc HB1.out.size _).trans hb2); clear o2 hb2))
      exact ⟨⟨j + 1, by omega, by simp, HO3.out, HB2.out⟩, by simp [intOf]; omega⟩
    · have hji : ¬ (j : Int) < n := by omega
      have hbt : b.take j = b := List.take_of_length_le (by have := HL.out; omega)
      rw [hbt] at HO
      obtain ⟨a', c', rfl, h1, h2, h3, h4⟩ := HO.out.cutable (nib_isB HB.out)
      have hln : (nib b).length = 2 * n := by rw [nib_len, HL.out]
      rw [hln] at h1 h3 ⊢
      have H1 := Hid.mk h1
      have H2 := Hid.mk h2
      have H3 := Hid.mk h3
      clear hbt h1 h2 h3 h4 hln
      go_wp2_with fail
      go_ret
      exact ⟨⟨a', c', rfl, H1.out, H2.out, H3.out⟩, HBW.out⟩
end Go.Proofs.Ytgbkgfmmlmojhab

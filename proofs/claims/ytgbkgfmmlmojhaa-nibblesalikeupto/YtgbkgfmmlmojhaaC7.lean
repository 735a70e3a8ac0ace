/- What Less answers. -/
import Derived.Test.YtgbkgfmmlmojhaaC6
namespace Go.Proofs.Ytgbkgfmmlmojhaa
open Go.RowKit
set_option linter.unusedVariables false
set_option maxHeartbeats 1000000 in
theorem less_any (a1 a2 : Option Addr) (n1 c1 n2 c2 : Nat) (p q : List Int) (w : World) (h1 : Ag w a1 n1 c1 p) (h2 : Ag w a2 n2 c2 q) (hn1 : n1 ≤ 140737488355328) (hn2 : n2 ≤ 140737488355328) :
    Calls Try.prog 22 #[.slice a1 n1 c1, .slice a2 n2 c2] w fun e w' => e = .returned (.bool (lessP p q)) ∧ Below w.heap.size w w' := by
  have hc := common_any a1 a2 n1 c1 n2 c2 p q w h1 h2 hn1 hn2
  have hl1 := h1.l
  have hl2 := h2.l
  obtain ⟨k1, k2⟩ := com_le p q
  have hla := less_at p q
  obtain ⟨m, hm⟩ : ∃ m, com p q = m := ⟨_, rfl⟩
  rw [hm] at hc k1 k2 hla
  clear hm
  obtain ⟨res, hres⟩ : ∃ r, lessP p q = r := ⟨_, rfl⟩
  rw [hres] at hla ⊢
  clear hres
  rw [hl1, hl2] at hla
  rw [hl1] at k1
  rw [hl2] at k2
  have HC := Hid.mk hc
  have HA1 := Hid.mk h1
  have HA2 := Hid.mk h2
  clear hc h1 h2 hl1 hl2
  by_cases e2 : m = n2
  · rw [if_pos e2] at hla
    subst hla
    have q1 : ¬ (n1 : Int) < n2 := by omega
    by_cases e1 : m = n1
    · subst e1
      subst e2
      go_enter Try.func22, Try.ntmps22
      go_wp2_with fail
      refine HC.out.mono ?_
      rintro e w1 ⟨rfl, hb⟩
      have HB := Hid.mk hb
      clear hb
      go_wp2_with fail
      go_ret
      exact ⟨rfl, HB.out⟩
    · have q2 : ((m : Int) == (n1 : Int)) = false := by rw [beq_eq_false_iff_ne]; omega
      subst e2
      clear e1
      go_enter Try.func22, Try.ntmps22
      go_wp2_with fail
      refine HC.out.mono ?_
      rintro e w1 ⟨rfl, hb⟩
      have HB := Hid.mk hb
      clear hb
      go_wp2_with fail
      go_ret
      refine ⟨?_, HB.out⟩
      show Ending.returned (.bool (decide (n1 < m))) = _
      rw [decide_eq_false (by omega)]
  · rw [if_neg e2] at hla
    by_cases e1 : m = n1
    · rw [if_pos e1] at hla
      subst hla
      have q1 : (n1 : Int) < n2 := by omega
      subst e1
      clear e2
      go_enter Try.func22, Try.ntmps22
      go_wp2_with fail
      refine HC.out.mono ?_
      rintro e w1 ⟨rfl, hb⟩
      have HB := Hid.mk hb
      clear hb
      go_wp2_with fail
      go_ret
      exact ⟨rfl, HB.out⟩
    · rw [if_neg e1] at hla
      have q1 : ((m : Int) == (n1 : Int)) = false := by rw [beq_eq_false_iff_ne]; omega
      have q2 : ((m : Int) == (n2 : Int)) = false := by rw [beq_eq_false_iff_ne]; omega
      have q3 : (m : Int) < n1 := by omega
      have q4 : (m : Int) < n2 := by omega
      obtain ⟨g1, o1, rfl, hnc1, hcm1, hcs1⟩ := ag_head HA1.out (by omega)
      obtain ⟨g2, o2, rfl, hnc2, hcm2, hcs2⟩ := ag_head HA2.out (by omega)
      unfold maxLen at hcm1 hcm2
      have hcell1 := hcs1 m (by omega)
      have hcell2 := hcs2 m (by omega)
      generalize p.getD m 0 = x at *
      generalize q.getD m 0 = y at *
      have HX := Hid.mk hla
      clear hcs1 hcs2 e1 e2 hla
      go_enter Try.func22, Try.ntmps22
      go_wp2_with fail
      refine HC.out.mono ?_
      rintro e w1 ⟨rfl, hb⟩
      have hd1 := (hb.cell (p := ⟨g1, o1 + m, none⟩) (block_lt_of_cell hcell1)).trans hcell1
      have hd2 := (hb.cell (p := ⟨g2, o2 + m, none⟩) (block_lt_of_cell hcell2)).trans hcell2
      have HB := Hid.mk hb
      clear hb hcell1 hcell2
      go_wp2_with fail
      go_region
      all_goals
        go_wp2_with fail
        go_ret
        exact ⟨by rw [HX.out]; rfl, HB.out.drew⟩
end Go.Proofs.Ytgbkgfmmlmojhaa

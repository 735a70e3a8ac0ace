/- What Common answers. -/
import Derived.Test.YtgbkgfmmlmojhabB1
namespace Go.Proofs.Ytgbkgfmmlmojhab
open Go.RowKit
set_option linter.unusedVariables false
set_option maxHeartbeats 1000000 in
theorem common_any (a1 a2 : Option Addr) (n1 c1 n2 c2 : Nat) (p q : List Int) (w : World) (h1 : Ag w a1 n1 c1 p) (h2 : Ag w a2 n2 c2 q) (hn1 : n1 ≤ 140737488355328) (hn2 : n2 ≤ 140737488355328) :
    Calls Try.prog 13 #[.slice a1 n1 c1, .slice a2 n2 c2] w fun e w' => e = .returned (.int .i64 (com p q : Nat)) ∧ Below w.heap.size w w' := by
  have HL1 := Hid.mk h1.l
  have HL2 := Hid.mk h2.l
  have HC1 := Hid.mk (fun h => ag_head h1 h)
  have HC2 := Hid.mk (fun h => ag_head h2 h)
  clear h1 h2
  obtain ⟨res, hres⟩ : ∃ r, com p q = r := ⟨_, rfl⟩
  rw [hres]
  have HRES := Hid.mk hres
  clear hres
  go_enter Try.func13, Try.ntmps13
  go_wp2_with fail
  go_loopw [5] (fun i v => ∃ j : Nat, j ≤ n1 ∧ j ≤ n2 ∧ i = .int .i64 j ∧ p.take j = q.take j ∧ Below w.heap.size w v) (fun i _ => n1 - (intOf i).toNat)
  case atStart => exact ⟨0, by omega, by omega, rfl, rfl, Below.refl _ _⟩
  case round =>
    obtain ⟨j, hj1, hj2, rfl, htk, hb⟩ := hrel
    have HTK := Hid.mk htk
    have HBW := Hid.mk hb
    clear htk hb
    have HD : Hid ((j = p.length ∨ j = q.length ∨ p.getD j 0 ≠ q.getD j 0) → res = j) := Hid.mk (fun h => HRES.out.symm.trans (com_char p q j (by have := HL1.out; omega) (by have := HL2.out; omega) HTK.out h))
    by_cases hlt1 : j < n1
    case neg =>
      have hji : ¬ (j : Int) < n1 := by omega
      have e := HD.out (.inl (by have := HL1.out; omega))
      subst e
      go_wp2_with fail
      go_region
      all_goals
        go_wp2_with fail
        go_ret
        exact ⟨rfl, HBW.out.drew⟩
    have hji1 : (j : Int) < n1 := by omega
    by_cases hlt2 : j < n2
    case neg =>
      have hji : ¬ (j : Int) < n2 := by omega
      have e := HD.out (.inr (.inl (by have := HL2.out; omega)))
      subst e
      go_wp2_with fail
      go_region
      all_goals
        go_wp2_with fail
        go_ret
        exact ⟨rfl, HBW.out.drew⟩
    have hji2 : (j : Int) < n2 := by omega
    obtain ⟨g1, o1, rfl, hnc1, hcm1, hcs1⟩ := HC1.out (by omega)
    obtain ⟨g2, o2, rfl, hnc2, hcm2, hcs2⟩ := HC2.out (by omega)
    unfold maxLen at hcm1 hcm2
    have hcell1 := (HBW.out.cell (p := ⟨g1, o1 + j, none⟩) (block_lt_of_cell (hcs1 j hlt1))).trans (hcs1 j hlt1)
    have hcell2 := (HBW.out.cell (p := ⟨g2, o2 + j, none⟩) (block_lt_of_cell (hcs2 j hlt2))).trans (hcs2 j hlt2)
    have HT1 := Hid.mk (take_snoc (b := p) (i := j) (by have := HL1.out; omega))
    have HT2 := Hid.mk (take_snoc (b := q) (i := j) (by have := HL2.out; omega))
    generalize p.getD j 0 = x at *
    generalize q.getD j 0 = y at *
    clear hcs1 hcs2
    by_cases hxy : x = y
    · subst hxy
      have hq : (x == x) = true := by simp
      go_wp2_with fail
      go_region
      all_goals
        go_wp2_with fail
        exact ⟨⟨j + 1, by omega, by omega, by simp, by rw [HT1.out, HT2.out, HTK.out], HBW.out.drew⟩, by simp [intOf]; omega⟩
    · have e := HD.out (.inr (.inr hxy))
      subst e
      have hq : (x == y) = false := by simpa using hxy
      clear hxy
      go_wp2_with fail
      go_region
      all_goals
        go_wp2_with fail
        go_ret
        exact ⟨rfl, HBW.out.drew⟩
end Go.Proofs.Ytgbkgfmmlmojhab

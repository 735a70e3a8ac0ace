/- What Right answers. -/
import Derived.Test.YtgbkgfmmlmojhabP
import Derived.Test.YtgbkgfmmlmojhabB0
namespace Go.Proofs.Ytgbkgfmmlmojhab
open Go.RowKit
set_option linter.unusedVariables false
set_option maxHeartbeats 400000 in
theorem right_any (a : Option Addr) (n c : Nat) (b : List Int) (w : World) (h : Ag w a n c b) (hn : n ≤ 140737488355328) :
    Calls Try.prog 12 #[.slice a n c] w fun e w' => e = .returned (.bool (rightP b)) ∧ w' = w := by
  have HL := Hid.mk h.l
  have HC : Hid (0 < n → ∃ g off, a = some ⟨g, off, none⟩ ∧ n ≤ c ∧ c ≤ maxLen ∧ ∀ j, j < n → w.cell? ⟨g, off + j, none⟩ = some (.int .u8 (b.getD j 0))) := Hid.mk (ag_head h)
  have HB := Hid.mk h.b
  clear h
  obtain ⟨res, hres⟩ : ∃ r, rightP b = r := ⟨_, rfl⟩
  rw [hres]
  have HRES := Hid.mk hres
  clear hres
  go_enter Try.func12, Try.ntmps12
  go_wp2_with fail
  go_loopw [7] (fun i v => ∃ j : Nat, j ≤ n ∧ i = .int .i64 j ∧ (∀ i, i < j → b.getD i 0 ≤ 15) ∧ v = w) (fun i _ => n - (intOf i).toNat)
  case atStart => exact ⟨0, by omega, rfl, fun i hi => by omega, rfl⟩
  case round =>
    obtain ⟨j, hj, rfl, hle, rfl⟩ := hrel
    have HLE := Hid.mk hle
    clear hle
    by_cases hlt : j < n
    · obtain ⟨g, off, rfl, hnc, hcm, hcs⟩ := HC.out (by omega)
      unfold maxLen at hcm
      have hcell := hcs j hlt
      have hx := HB.out _ (getD_mem (show j < b.length by have := HL.out; omega))
      have HX : Hid (b.getD j 0 > 15 → rightP b = false) := Hid.mk (fun h => right_no (by have := HL.out; omega) h)
      have HY : Hid (b.getD j 0 ≤ 15 → ∀ i, i < j + 1 → b.getD i 0 ≤ 15) := Hid.mk (fun h i hi => by
        by_cases e : i = j
        · rw [e]; exact h
        · exact HLE.out i (by omega))
      generalize b.getD j 0 = x at hcell hx HX HY
      obtain ⟨hx0, hx1⟩ := hx
      have hji : (j : Int) < n := by omega
      clear hcs
      by_cases h15 : x > 15
      · have e : res = false := HRES.out.symm.trans (HX.out h15)
        subst e
        go_wp2_with fail
        go_ret
        exact ⟨rfl, rfl⟩
      · have h15' : ¬ x > 15 := h15
        go_wp2_with fail
        exact ⟨⟨j + 1, by omega, by simp, HY.out (by omega), trivial⟩, by simp [intOf]; omega⟩
    · have hji : ¬ (j : Int) < n := by omega
      have e : res = true := HRES.out.symm.trans (right_yes fun i hi => HLE.out i (by have := HL.out; omega))
      subst e
      go_wp2_with fail
      go_ret
      exact ⟨rfl, rfl⟩
end Go.Proofs.Ytgbkgfmmlmojhab

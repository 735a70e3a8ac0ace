/- What the document's Unpack answers. -/
import Derived.Test.YtgbkgfmmlmojhabD2
import Derived.Test.YtgbkgfmmlmojhabC8
namespace Go.Proofs.Ytgbkgfmmlmojhab
open Go.RowKit
set_option linter.unusedVariables false
theorem nib_heads {b : List Int} (h : 0 < b.length) : (nib b).getD 0 0 = b.getD 0 0 / 16 ∧ (nib b).getD 1 0 = b.getD 0 0 % 16 := by
  cases b with
  | nil => simp at h
  | cons c r => exact ⟨rfl, rfl⟩
theorem ag_drop {w : World} {g off n c k : Nat} {bs : List Int} (h : Ag w (some ⟨g, off, none⟩) n c bs) (hk : k < n) : Ag w (some ⟨g, off + k, none⟩) (n - k) (c - k) (bs.drop k) := by
  have hl := h.l
  rcases h.i with ⟨h0, _⟩ | ⟨gb, off', h1, h2, h3, h4, h5, h7⟩
  · omega
  · injection h1 with h1
    injection h1 with e1 e2
    subst e1 e2
    refine ⟨.inr ⟨g, off + k, rfl, by rw [List.length_drop]; omega, by omega, by omega, by omega, fun j hj => ?_⟩, (fun h => by cases h), by rw [List.length_drop]; omega, isB_drop h.b k⟩
    rw [List.length_drop] at hj
    rw [drop_getD, Nat.add_assoc]
    exact h7 (k + j) (by omega)
theorem ag_empty (w : World) (a : Option Addr) (c : Nat) (h : a = none → c = 0) : Ag w a 0 c [] := ⟨.inl ⟨rfl, rfl⟩, fun e => ⟨rfl, h e⟩, rfl, fun x hx => by cases hx⟩
set_option maxHeartbeats 2000000 in
theorem runpack_any (a : Option Addr) (n c : Nat) (b : List Int) (w : World) (h : Ag w a n c b) (hn : 2 * n ≤ 140737488355328) :
    Calls Try.prog 6 #[.slice a n c] w fun e w' => (∃ a' m c', e = .returned (.tuple #[.slice a' m c', .bool (unpP b).2.1, .int .i64 ((unpP b).2.2 : Nat)]) ∧ Ag w' a' m c' (unpP b).1) ∧ Below w.heap.size w w' := by
  have hl := h.l
  have hof := rof_any a n c b w h hn
  by_cases h0 : n = 0
  · subst h0
    have e : b = [] := List.eq_nil_of_length_eq_zero hl
    subst e
    rw [unp_nil]
    simp only
    have HOF := Hid.mk hof
    clear h hl hof
    go_enter Try.func6, Try.ntmps6
    go_wp2_with fail
    refine HOF.out.mono ?_
    rintro e w1 ⟨⟨a1, c1, rfl, _, _, _⟩, hb⟩
    rw [Nat.mul_zero]
    have HB := Hid.mk hb
    clear hb
    go_wp2_with fail
    go_ret3
    exact ⟨⟨none, 0, 0, rfl, ag_nil _⟩, HB.out⟩
  have hx := h.b _ (getD_mem (l := b) (i := 0) (by omega))
  have hbad := unp_bad (b := b) (by omega)
  have hgood := unp_good (b := b) (by omega)
  obtain ⟨e0, e1⟩ := nib_heads (b := b) (by omega)
  generalize b.getD 0 0 = x at *
  obtain ⟨hx0, hx1⟩ := hx
  obtain ⟨f, hf⟩ : ∃ f, x / 16 = f := ⟨_, rfl⟩
  obtain ⟨s, hs⟩ : ∃ s, x % 16 = s := ⟨_, rfl⟩
  have hxs : badU x ↔ (f > 3 ∨ (f % 2 = 0 ∧ s ≠ 0)) := by unfold badU; rw [hf, hs]
  rw [hf] at e0 hgood
  rw [hs] at e1
  have hf0 : 0 ≤ f := by omega
  have hf1 : f ≤ 15 := by omega
  have hs0 : 0 ≤ s := by omega
  have hs1 : s ≤ 15 := by omega
  obtain ⟨N, hN⟩ : ∃ N, nib b = N := ⟨_, rfl⟩
  rw [hN] at e0 e1 hof hgood
  clear hf hs hx0 hx1 hN
  obtain ⟨M, hM⟩ : ∃ M, 2 * n = M := ⟨_, rfl⟩
  have hM2 : 2 ≤ M := by omega
  rw [hM] at hof hn
  have HOF := Hid.mk hof
  have hMi : ((M : Int) == 0) = false := by rw [beq_eq_false_iff_ne]; omega
  have hMi0 : (0 : Int) < M := by omega
  have hMi1 : (1 : Int) < M := by omega
  clear h hl hof hM h0
  have hstep : ∀ (g off c1 : Nat) (w1 : World), Ag w1 (some ⟨g, off, none⟩) M c1 N → w1.cell? ⟨g, off, none⟩ = some (.int .u8 f) ∧ w1.cell? ⟨g, off + 1, none⟩ = some (.int .u8 s) := by
    intro g off c1 w1 hag
    obtain ⟨g', off', h1, h2, h3, h4⟩ := ag_head hag (by omega)
    injection h1 with h1
    injection h1 with e2 e3
    subst e2 e3
    have h5 := h4 0 (by omega)
    have h6 := h4 1 (by omega)
    rw [e0, Nat.add_zero] at h5
    rw [e1] at h6
    exact ⟨h5, h6⟩
  have HST := Hid.mk hstep
  clear hstep e0 e1
  have hsome : ∀ (a1 : Option Addr) (c1 : Nat) (w1 : World), Ag w1 a1 M c1 N → ∃ g off, a1 = some ⟨g, off, none⟩ := by
    intro a1 c1 w1 hag
    obtain ⟨g', off', h1, _⟩ := ag_head hag (by omega)
    exact ⟨g', off', h1⟩
  have HSM := Hid.mk hsome
  clear hsome
  by_cases h3 : f > 3
  · rw [hbad (hxs.2 (.inl h3))]
    simp only
    clear hbad hgood hxs
    go_enter Try.func6, Try.ntmps6
    go_wp2_with fail
    refine HOF.out.mono ?_
    rintro e w1 ⟨⟨a1, c1, rfl, hc1, hc2, hag⟩, hb⟩
    obtain ⟨g, off, rfl⟩ := HSM.out _ _ _ hag
    obtain ⟨z0, z1⟩ := HST.out _ _ _ _ hag
    unfold maxLen at hc2
    have HB := Hid.mk hb
    clear hb hag
    go_wp2_with fail
    go_ret3
    exact ⟨⟨none, 0, 0, rfl, ag_nil _⟩, HB.out⟩
  have hf4 : f = 0 ∨ f = 1 ∨ f = 2 ∨ f = 3 := by omega
  clear h3 hf0 hf1
  rcases hf4 with rfl | rfl | rfl | rfl
  ·
    by_cases hs : s = 0
    ·
      subst hs
      rw [hgood (fun hb => by have := hxs.1 hb; omega), if_pos (by omega)]
      simp only
      rw [decide_eq_false (by omega)]
      clear hbad hgood hxs
      go_enter Try.func6, Try.ntmps6
      go_wp2_with fail
      refine HOF.out.mono ?_
      rintro e w1 ⟨⟨a1, c1, rfl, hc1, hc2, hag⟩, hb⟩
      obtain ⟨g, off, rfl⟩ := HSM.out _ _ _ hag
      obtain ⟨z0, z1⟩ := HST.out _ _ _ _ hag
      unfold maxLen at hc2
      have HB := Hid.mk hb
      have HAG := Hid.mk hag
      have hci : (2 : Int) ≤ c1 := by omega
      have hcm : (M : Int) ≤ c1 := by omega
      have hmm : (2 : Int) ≤ M := by omega
      clear hb hag
      by_cases hcf : c1 = 2
      · have hM3 : M = 2 := by omega
        subst hM3
        subst hcf
        have HNN : Hid (N.drop 2 = []) := Hid.mk (List.drop_of_length_le (by rw [HAG.out.l]; exact Nat.le_refl _))
        go_wp2_with fail
        go_region
        all_goals
          go_wp2_with fail
          go_ret3
          exact ⟨⟨_, _, _, rfl, by rw [HNN.out]; exact ag_empty _ _ _ (fun _ => rfl)⟩, HB.out.drew⟩
      · by_cases hM3 : M = 2
        · subst hM3
          have HNN : Hid (N.drop 2 = []) := Hid.mk (List.drop_of_length_le (by rw [HAG.out.l]; exact Nat.le_refl _))
          go_wp2_with fail
          go_region
          all_goals
            go_wp2_with fail
            go_ret3
            exact ⟨⟨_, _, _, rfl, by rw [HNN.out]; exact ag_empty _ _ _ (fun h => by cases h)⟩, HB.out.drew⟩
        · go_wp2_with fail
          go_region
          all_goals
            go_wp2_with fail
            go_ret3
            exact ⟨⟨_, _, _, rfl, (ag_drop HAG.out (k := 2) (by omega)).drew⟩, HB.out.drew⟩
    ·
      rw [hbad (hxs.2 (.inr ⟨by omega, hs⟩))]
      simp only
      clear hbad hgood hxs
      have hsb : (s != 0) = true := by rw [bne_iff_ne]; exact hs
      clear hs
      go_enter Try.func6, Try.ntmps6
      go_wp2_with fail
      refine HOF.out.mono ?_
      rintro e w1 ⟨⟨a1, c1, rfl, hc1, hc2, hag⟩, hb⟩
      obtain ⟨g, off, rfl⟩ := HSM.out _ _ _ hag
      obtain ⟨z0, z1⟩ := HST.out _ _ _ _ hag
      unfold maxLen at hc2
      have HB := Hid.mk hb
      clear hb hag
      go_wp2_with fail
      go_ret3
      exact ⟨⟨none, 0, 0, rfl, ag_nil _⟩, HB.out⟩
  ·
    rw [hgood (fun hb => by have := hxs.1 hb; omega), if_neg (by omega)]
    simp only
    rw [decide_eq_false (by omega)]
    clear hbad hgood hxs
    go_enter Try.func6, Try.ntmps6
    go_wp2_with fail
    refine HOF.out.mono ?_
    rintro e w1 ⟨⟨a1, c1, rfl, hc1, hc2, hag⟩, hb⟩
    obtain ⟨g, off, rfl⟩ := HSM.out _ _ _ hag
    obtain ⟨z0, z1⟩ := HST.out _ _ _ _ hag
    unfold maxLen at hc2
    have HB := Hid.mk hb
    have HAG := Hid.mk hag
    have hci : (1 : Int) ≤ c1 := by omega
    have hcm : (M : Int) ≤ c1 := by omega
    have hmm : (1 : Int) ≤ M := by omega
    have hcf : ¬ c1 = 1 := by omega
    clear hb hag
    go_wp2_with fail
    go_region
    all_goals
      go_wp2_with fail
      go_ret3
      exact ⟨⟨_, _, _, rfl, (ag_drop HAG.out (k := 1) (by omega)).drew⟩, HB.out.drew⟩
  ·
    by_cases hs : s = 0
    ·
      subst hs
      rw [hgood (fun hb => by have := hxs.1 hb; omega), if_pos (by omega)]
      simp only
      rw [decide_eq_true (by omega)]
      clear hbad hgood hxs
      go_enter Try.func6, Try.ntmps6
      go_wp2_with fail
      refine HOF.out.mono ?_
      rintro e w1 ⟨⟨a1, c1, rfl, hc1, hc2, hag⟩, hb⟩
      obtain ⟨g, off, rfl⟩ := HSM.out _ _ _ hag
      obtain ⟨z0, z1⟩ := HST.out _ _ _ _ hag
      unfold maxLen at hc2
      have HB := Hid.mk hb
      have HAG := Hid.mk hag
      have hci : (2 : Int) ≤ c1 := by omega
      have hcm : (M : Int) ≤ c1 := by omega
      have hmm : (2 : Int) ≤ M := by omega
      clear hb hag
      by_cases hcf : c1 = 2
      · have hM3 : M = 2 := by omega
        subst hM3
        subst hcf
        have HNN : Hid (N.drop 2 = []) := Hid.mk (List.drop_of_length_le (by rw [HAG.out.l]; exact Nat.le_refl _))
        go_wp2_with fail
        go_region
        all_goals
          go_wp2_with fail
          go_ret3
          exact ⟨⟨_, _, _, rfl, by rw [HNN.out]; exact ag_empty _ _ _ (fun _ => rfl)⟩, HB.out.drew⟩
      · by_cases hM3 : M = 2
        · subst hM3
          have HNN : Hid (N.drop 2 = []) := Hid.mk (List.drop_of_length_le (by rw [HAG.out.l]; exact Nat.le_refl _))
          go_wp2_with fail
          go_region
          all_goals
            go_wp2_with fail
            go_ret3
            exact ⟨⟨_, _, _, rfl, by rw [HNN.out]; exact ag_empty _ _ _ (fun h => by cases h)⟩, HB.out.drew⟩
        · go_wp2_with fail
          go_region
          all_goals
            go_wp2_with fail
            go_ret3
            exact ⟨⟨_, _, _, rfl, (ag_drop HAG.out (k := 2) (by omega)).drew⟩, HB.out.drew⟩
    ·
      rw [hbad (hxs.2 (.inr ⟨by omega, hs⟩))]
      simp only
      clear hbad hgood hxs
      have hsb : (s != 0) = true := by rw [bne_iff_ne]; exact hs
      clear hs
      go_enter Try.func6, Try.ntmps6
      go_wp2_with fail
      refine HOF.out.mono ?_
      rintro e w1 ⟨⟨a1, c1, rfl, hc1, hc2, hag⟩, hb⟩
      obtain ⟨g, off, rfl⟩ := HSM.out _ _ _ hag
      obtain ⟨z0, z1⟩ := HST.out _ _ _ _ hag
      unfold maxLen at hc2
      have HB := Hid.mk hb
      clear hb hag
      go_wp2_with fail
      go_ret3
      exact ⟨⟨none, 0, 0, rfl, ag_nil _⟩, HB.out⟩
  ·
    rw [hgood (fun hb => by have := hxs.1 hb; omega), if_neg (by omega)]
    simp only
    rw [decide_eq_true (by omega)]
    clear hbad hgood hxs
    go_enter Try.func6, Try.ntmps6
    go_wp2_with fail
    refine HOF.out.mono ?_
    rintro e w1 ⟨⟨a1, c1, rfl, hc1, hc2, hag⟩, hb⟩
    obtain ⟨g, off, rfl⟩ := HSM.out _ _ _ hag
    obtain ⟨z0, z1⟩ := HST.out _ _ _ _ hag
    unfold maxLen at hc2
    have HB := Hid.mk hb
    have HAG := Hid.mk hag
    have hci : (1 : Int) ≤ c1 := by omega
    have hcm : (M : Int) ≤ c1 := by omega
    have hmm : (1 : Int) ≤ M := by omega
    have hcf : ¬ c1 = 1 := by omega
    clear hb hag
    go_wp2_with fail
    go_region
    all_goals
      go_wp2_with fail
      go_ret3
      exact ⟨⟨_, _, _, rfl, (ag_drop HAG.out (k := 1) (by omega)).drew⟩, HB.out.drew⟩
end Go.Proofs.Ytgbkgfmmlmojhab

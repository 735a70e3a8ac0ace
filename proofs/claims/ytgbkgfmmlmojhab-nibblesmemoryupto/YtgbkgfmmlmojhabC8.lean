/- What Unpack answers. -/
import Derived.Test.YtgbkgfmmlmojhabC3
namespace Go.Proofs.Ytgbkgfmmlmojhab
open Go.RowKit
set_option linter.unusedVariables false
theorem Cut.mono {w w' : World} {base base' : Nat} {a : Option Addr} {n : Nat} {bs : List Int} (h : Cut w base a n bs) (hb : Below w.heap.size w w') (hbs : base' ≤ base) : Cut w' base' a n bs := by
  refine ⟨h.ag.at hb, fun hn => ?_⟩
  obtain ⟨g, off, cur, h1, h2, h3⟩ := h.own hn
  exact ⟨g, off, cur, h1, by omega, Below.row hb h3⟩
set_option maxHeartbeats 2000000 in
theorem unpack_any (a : Option Addr) (n c : Nat) (b : List Int) (w : World) (h : Ag w a n c b) (hn : 2 * n ≤ 140737488355328) :
    Calls Try.prog 5 #[.slice a n c] w fun e w' => (∃ a' m, e = .returned (.tuple #[.slice a' m m, .bool (unpP b).2.1, .int .i64 ((unpP b).2.2 : Nat)]) ∧ Cut w' w.heap.size a' m (unpP b).1) ∧ Below w.heap.size w w' := by
  have hl := h.l
  by_cases h0 : n = 0
  · subst h0
    have e : b = [] := List.eq_nil_of_length_eq_zero hl
    subst e
    rw [unp_nil]
    simp only
    clear h hl
    go_enter Try.func5, Try.ntmps5
    go_wp2_with fail
    go_ret3
    exact ⟨⟨none, 0, rfl, ag_nil _, fun h => by omega⟩, Below.refl _ _⟩
  have hni : ((n : Int) == 0) = false := by rw [beq_eq_false_iff_ne]; omega
  have hnp : (0 : Int) < n := by omega
  obtain ⟨g, off, rfl, hnc, hcm, hcs⟩ := ag_head h (by omega)
  unfold maxLen at hcm
  have hcell := hcs 0 (by omega)
  rw [Nat.add_zero] at hcell
  have hx := h.b _ (getD_mem (l := b) (i := 0) (by omega))
  have hbad := unp_bad (b := b) (by omega)
  have hgood := unp_good (b := b) (by omega)
  have hof := fun v (hb : Below w.heap.size w v) => of_any _ n c b v (h.at hb) hn
  have hnl : (nib b).length = 2 * n := by rw [nib_len, hl]
  generalize b.getD 0 0 = x at *
  obtain ⟨hx0, hx1⟩ := hx
  have hand := and15 hx0 hx1
  have hq0 : 0 ≤ x / 16 := by omega
  have hq1 : x / 16 < 256 := by omega
  have HOF := Hid.mk hof
  have HNL := Hid.mk hnl
  have hn2 : 2 ≤ 2 * n := by omega
  clear h hl hcs hof hnl
  by_cases h3 : x / 16 > 3
  · rw [hbad (.inl h3)]
    simp only
    clear hbad hgood
    go_enter Try.func5, Try.ntmps5
    go_wp2_with fail
    go_region
    all_goals
      go_wp2_with fail
      go_ret3
      exact ⟨⟨none, 0, rfl, ag_nil _, fun h => by omega⟩, (Below.refl _ _).drew⟩
  have hf : x / 16 = 0 ∨ x / 16 = 1 ∨ x / 16 = 2 ∨ x / 16 = 3 := by omega
  clear h3 hq0 hq1
  rcases hf with hf | hf | hf | hf
  ·
    have c1 : bits BinOp.and IntKind.u8 0 1 = 0 := by decide +kernel
    have c2 : bits BinOp.and IntKind.u8 0 2 = 0 := by decide +kernel
    by_cases hs : x % 16 = 0
    ·
      rw [hgood (by unfold badU; omega), if_pos (by omega)]
      simp only
      rw [decide_eq_false (by omega)]
      clear hbad hgood
      go_enter Try.func5, Try.ntmps5
      go_wp2_with fail
      go_region
      all_goals
        go_wp2_with fail
        refine (HOF.out _ (Below.refl _ _).drew).mono ?_
        rintro e w1 ⟨⟨a1, rfl, hcut⟩, hb⟩
        have hcal := behind_any a1 (2 * n) (2 * n) 2 w.heap.size (nib b) w1 (by omega) (Nat.le_refl _) (by unfold maxLen; omega) (by omega) hcut.ag hcut.own
        rw [show ((2 : Nat) : Int) = 2 from rfl] at hcal
        have HCAL := Hid.mk hcal
        have HB := Hid.mk (((Below.refl w.heap.size w).drew).trans hb)
        clear hcal hcut hb
        go_wp2_with fail
        refine HCAL.out.mono ?_
        rintro e w2 ⟨⟨a2, rfl, hcut⟩, rfl⟩
        have HCUT := Hid.mk hcut
        clear hcut
        go_wp2_with fail
        go_ret3
        exact ⟨⟨a2, _, rfl, HCUT.out⟩, HB.out⟩
    ·
      rw [hbad (.inr ⟨by omega, hs⟩)]
      simp only
      clear hbad hgood
      have hsb : (x % 16 != 0) = true := by rw [bne_iff_ne]; exact hs
      clear hs
      go_enter Try.func5, Try.ntmps5
      go_wp2_with fail
      go_region
      all_goals
        go_wp2_with fail
        go_ret3
        exact ⟨⟨none, 0, rfl, ag_nil _, fun h => by omega⟩, (Below.refl _ _).drew⟩
  ·
    have c1 : bits BinOp.and IntKind.u8 1 1 = 1 := by decide +kernel
    have c2 : bits BinOp.and IntKind.u8 1 2 = 0 := by decide +kernel
    rw [hgood (by unfold badU; omega), if_neg (by omega)]
    simp only
    rw [decide_eq_false (by omega)]
    clear hbad hgood
    go_enter Try.func5, Try.ntmps5
    go_wp2_with fail
    go_region
    all_goals
      go_wp2_with fail
      refine (HOF.out _ (Below.refl _ _).drew).mono ?_
      rintro e w1 ⟨⟨a1, rfl, hcut⟩, hb⟩
      have hcal := behind_any a1 (2 * n) (2 * n) 1 w.heap.size (nib b) w1 (by omega) (Nat.le_refl _) (by unfold maxLen; omega) (by omega) hcut.ag hcut.own
      rw [show ((1 : Nat) : Int) = 1 from rfl] at hcal
      have HCAL := Hid.mk hcal
      have HB := Hid.mk (((Below.refl w.heap.size w).drew).trans hb)
      clear hcal hcut hb
      go_wp2_with fail
      refine HCAL.out.mono ?_
      rintro e w2 ⟨⟨a2, rfl, hcut⟩, rfl⟩
      have HCUT := Hid.mk hcut
      clear hcut
      go_wp2_with fail
      go_ret3
      exact ⟨⟨a2, _, rfl, HCUT.out⟩, HB.out⟩
  ·
    have c1 : bits BinOp.and IntKind.u8 2 1 = 0 := by decide +kernel
    have c2 : bits BinOp.and IntKind.u8 2 2 = 2 := by decide +kernel
    by_cases hs : x % 16 = 0
    ·
      rw [hgood (by unfold badU; omega), if_pos (by omega)]
      simp only
      rw [decide_eq_true (by omega)]
      clear hbad hgood
      go_enter Try.func5, Try.ntmps5
      go_wp2_with fail
      go_region
      all_goals
        go_wp2_with fail
        refine (HOF.out _ (Below.refl _ _).drew).mono ?_
        rintro e w1 ⟨⟨a1, rfl, hcut⟩, hb⟩
        have hcal := behind_any a1 (2 * n) (2 * n) 2 w.heap.size (nib b) w1 (by omega) (Nat.le_refl _) (by unfold maxLen; omega) (by omega) hcut.ag hcut.own
        rw [show ((2 : Nat) : Int) = 2 from rfl] at hcal
        have HCAL := Hid.mk hcal
        have HB := Hid.mk (((Below.refl w.heap.size w).drew).trans hb)
        clear hcal hcut hb
        go_wp2_with fail
        refine HCAL.out.mono ?_
        rintro e w2 ⟨⟨a2, rfl, hcut⟩, rfl⟩
        have HCUT := Hid.mk hcut
        clear hcut
        go_wp2_with fail
        go_ret3
        exact ⟨⟨a2, _, rfl, HCUT.out⟩, HB.out⟩
    ·
      rw [hbad (.inr ⟨by omega, hs⟩)]
      simp only
      clear hbad hgood
      have hsb : (x % 16 != 0) = true := by rw [bne_iff_ne]; exact hs
      clear hs
      go_enter Try.func5, Try.ntmps5
      go_wp2_with fail
      go_region
      all_goals
        go_wp2_with fail
        go_ret3
        exact ⟨⟨none, 0, rfl, ag_nil _, fun h => by omega⟩, (Below.refl _ _).drew⟩
  ·
    have c1 : bits BinOp.and IntKind.u8 3 1 = 1 := by decide +kernel
    have c2 : bits BinOp.and IntKind.u8 3 2 = 2 := by decide +kernel
    rw [hgood (by unfold badU; omega), if_neg (by omega)]
    simp only
    rw [decide_eq_true (by omega)]
    clear hbad hgood
    go_enter Try.func5, Try.ntmps5
    go_wp2_with fail
    go_region
    all_goals
      go_wp2_with fail
      refine (HOF.out _ (Below.refl _ _).drew).mono ?_
      rintro e w1 ⟨⟨a1, rfl, hcut⟩, hb⟩
      have hcal := behind_any a1 (2 * n) (2 * n) 1 w.heap.size (nib b) w1 (by omega) (Nat.le_refl _) (by unfold maxLen; omega) (by omega) hcut.ag hcut.own
      rw [show ((1 : Nat) : Int) = 1 from rfl] at hcal
      have HCAL := Hid.mk hcal
      have HB := Hid.mk (((Below.refl w.heap.size w).drew).trans hb)
      clear hcal hcut hb
      go_wp2_with fail
      refine HCAL.out.mono ?_
      rintro e w2 ⟨⟨a2, rfl, hcut⟩, rfl⟩
      have HCUT := Hid.mk hcut
      clear hcut
      go_wp2_with fail
      go_ret3
      exact ⟨⟨a2, _, rfl, HCUT.out⟩, HB.out⟩
end Go.Proofs.Ytgbkgfmmlmojhab

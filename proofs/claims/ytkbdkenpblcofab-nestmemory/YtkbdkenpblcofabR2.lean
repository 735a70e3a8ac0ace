/- What bodyAt answers. -/
import Derived.Test.YtkbdkenpblcofabR2a
namespace Go.Proofs.Ytkbdkenpblcofab
open Go.RowKit
set_option linter.unusedVariables false
set_option maxHeartbeats 2000000 in
theorem bodyAt_any (a : Option Addr) (n c d : Nat) (b : List Int) (w : World) (h : Ag w a n c b) (hd : d ≤ 8) (hn : n ≤ 4611686018427387904) :
    Calls Try.prog 25 #[.slice a n c, .int .i64 d] w fun e w' => e = .returned (.tuple #[.int .i64 ((hdr (decide (d = 8)) b).f : Nat), .int .i64 ((hdr (decide (d = 8)) b).t : Nat), .int .i64 ((hdr (decide (d = 8)) b).e : Nat)]) ∧ Below w.heap.size w w' := by
  have hl := h.l
  cases b with
  | nil =>
    simp at hl
    subst hl
    clear h
    go_enter Try.func25, Try.ntmps25
    go_wp2_with fail
    go_ret3
    exact ⟨rfl, Below.refl _ _⟩
  | cons x r =>
    simp only [List.length_cons] at hl
    obtain ⟨g, off, rfl, hc1, hc2, hc⟩ := ag_head h (by omega)
    unfold maxLen at hc2
    have hcell := hc 0 (by omega)
    simp only [Nat.add_zero, List.getD_cons_zero] at hcell
    obtain ⟨hx0, hx1⟩ := h.b x (by simp)
    have hn0 : ((n : Int) == 0) = false := by simp; omega
    have hn1 : 0 < n := by omega
    have hn2 : (0 : Int) < n := by omega
    have hdrop := ag_drop h (k := 1) (by omega)
    simp only [List.drop_succ_cons, List.drop_zero] at hdrop
    obtain ⟨R, hR⟩ : ∃ R, hdr (decide (d = 8)) (x :: r) = R := ⟨_, rfl⟩
    rw [hR]
    simp only [hdr, List.length_cons] at hR
    have HDR := Hid.mk hdrop
    have HL := Hid.mk hl
    clear h hc hdrop
    by_cases h1 : 192 ≤ x ∧ d = 8
    · obtain ⟨h1, rfl⟩ := h1
      rw [if_pos ⟨h1, by simp⟩] at hR
      subst hR
      clear hl
      go_enter Try.func25, Try.ntmps25
      go_wp2_with fail
      go_ret3
      exact ⟨rfl, Below.refl _ _⟩
    rw [if_neg (by simpa using h1)] at hR
    by_cases h2 : x < 128
    · rw [if_pos h2] at hR
      subst hR
      have h3 : ¬ 192 ≤ x := by omega
      clear hl h1
      go_enter Try.func25, Try.ntmps25
      go_wp2_with fail
      go_ret3
      exact ⟨rfl, Below.refl _ _⟩
    rw [if_neg h2] at hR
    by_cases hbig : 192 ≤ x
    · have hd8 : ((d : Int) == 8) = false := by simp; simp [hbig] at h1; omega
      have hnof : nOf x = (x - 192).toNat := by unfold nOf; rw [if_pos hbig]
      rw [hnof] at hR
      by_cases h5 : 55 < (x - 192).toNat
      · obtain ⟨k, hk⟩ : ∃ k : Nat, x - 192 - 55 = (k : Int) := ⟨(x - 192 - 55).toNat, by omega⟩
        rw [if_pos h5, show (x - 192).toNat - 55 = k from by omega] at hR
        exact bodyAt_long192 g off n c d k x r w hcell hx0 hx1 hbig hd8 h2 hc1 hc2 hn hl HDR.out (by omega) hk R hR
      · obtain ⟨m, hm⟩ : ∃ m : Nat, x - 192 = (m : Int) := ⟨(x - 192).toNat, by omega⟩
        rw [if_neg h5, show (x - 192).toNat = m from by omega] at hR
        have hm6 : ¬ (55 : Int) < x - 192 := by omega
        have HM := Hid.mk hm
        by_cases h6 : r.length + 1 - 1 < m
        · rw [if_pos h6] at hR
          subst hR
          have h7 : (n : Int) - 1 < x - 192 := by omega
          clear hnof h5 hl h1 hm h6
          go_enter Try.func25, Try.ntmps25
          go_wp2_with fail
          go_ret3
          exact ⟨rfl, Below.refl _ _⟩
        · rw [if_neg h6] at hR
          subst hR
          have h7 : ¬ (n : Int) - 1 < x - 192 := by omega
          clear hnof h5 hl h1 hm h6
          go_enter Try.func25, Try.ntmps25
          go_wp2_with fail
          go_ret3
          exact ⟨by simp [HR.f, HR.t, HR.e, HM.out], Below.refl _ _⟩
    · have hd9 : 128 ≤ x := by omega
      have hnof : nOf x = (x - 128).toNat := by unfold nOf; rw [if_neg hbig]
      rw [hnof] at hR
      by_cases h5 : 55 < (x - 128).toNat
      · obtain ⟨k, hk⟩ : ∃ k : Nat, x - 128 - 55 = (k : Int) := ⟨(x - 128 - 55).toNat, by omega⟩
        rw [if_pos h5, show (x - 128).toNat - 55 = k from by omega] at hR
        exact bodyAt_long128 g off n c d k x r w hcell hx0 hx1 hbig h2 hc1 hc2 hn hl HDR.out (by omega) hk R hR
      · obtain ⟨m, hm⟩ : ∃ m : Nat, x - 128 = (m : Int) := ⟨(x - 128).toNat, by omega⟩
        rw [if_neg h5, show (x - 128).toNat = m from by omega] at hR
        have hm6 : ¬ (55 : Int) < x - 128 := by omega
        have HM := Hid.mk hm
        by_cases h6 : r.length + 1 - 1 < m
        · rw [if_pos h6] at hR
          subst hR
          have h7 : (n : Int) - 1 < x - 128 := by omega
          clear hnof h5 hl h1 hm h6
          go_enter Try.func25, Try.ntmps25
          go_wp2_with fail
          go_ret3
          exact ⟨rfl, Below.refl _ _⟩
        · rw [if_neg h6] at hR
          subst hR
          have h7 : ¬ (n : Int) - 1 < x - 128 := by omega
          clear hnof h5 hl h1 hm h6
          go_enter Try.func25, Try.ntmps25
          go_wp2_with fail
          go_ret3
          exact ⟨by simp [HR.f, HR.t, HR.e, HM.out], Below.refl _ _⟩
end Go.Proofs.Ytkbdkenpblcofab

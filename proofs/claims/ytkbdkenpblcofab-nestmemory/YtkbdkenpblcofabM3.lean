/- What weightOf and sizeOf answer. -/
import Derived.Test.YtkbdkenpblcofabM2
namespace Go.Proofs.Ytkbdkenpblcofab
open Go.RowKit
set_option linter.unusedVariables false
set_option maxHeartbeats 400000 in
theorem weightOf_any (l : Bool) (ba : Option Addr) (bn bc : Nat) (ia : Option Addr) (m ic : Nat) (bs : List Int) (d : Nat) (w : World) (hl : bs.length = bn) (hn : bn ≤ maxLen) :
    Calls Try.prog 28 #[.agg #[.bool l, .slice ba bn bc, .slice ia m ic], .int .i64 d] w fun e w' => e = .returned (.int .i64 (wt l bs d : Nat)) ∧ Below w.heap.size w w' := by
  unfold maxLen at hn
  cases l with
  | true =>
    by_cases hd : d = 0
    · subst hd
      go_enter Try.func28, Try.ntmps28
      go_wp2_with fail
      go_ret
      exact ⟨by simp [wt], (Below.refl _ _).alloc (Nat.le_refl _) _⟩
    · have hd2 : ((d : Int) == 0) = false := by simp; omega
      go_enter Try.func28, Try.ntmps28
      go_wp2_with fail
      all_goals
        go_ret
        refine ⟨?_, (Below.refl _ _).alloc (Nat.le_refl _) _⟩
        simp [wt, hd, hl]
        omega
  | false =>
    go_enter Try.func28, Try.ntmps28
    go_wp2_with fail
    all_goals
      go_ret
      refine ⟨?_, (Below.refl _ _).alloc (Nat.le_refl _) _⟩
      simp [wt, hl]
      omega
set_option maxHeartbeats 400000 in
theorem sizeOf_any (l : Bool) (ba : Option Addr) (bn bc : Nat) (ia : Option Addr) (m ic : Nat) (bs : List Int) (n : Nat) (w : World) (h : Ag w ba bn bc bs) (hn : n < 1000000000) :
    Calls Try.prog 22 #[.agg #[.bool l, .slice ba bn bc, .slice ia m ic], .int .i64 n] w fun e w' => e = .returned (.int .i64 (szOf l bs n : Nat)) ∧ Below w.heap.size w w' := by
  have HS : Hid (szOf l bs n = if bare l bs then n else 1 + n + (if 55 < n then nb n else 0)) := rfl
  generalize szOf l bs n = r at HS ⊢
  go_enter Try.func22, Try.ntmps22
  go_wp2_with fail
  refine (bare_any l ba bn bc ia m ic bs _ (h.at ((Below.refl _ _).alloc (Nat.le_refl _) _))).mono ?_
  rintro e w1 ⟨rfl, hb⟩
  have hb2 := ((Below.refl w.heap.size w).alloc (Nat.le_refl _) (.cells #[.bool l, .slice ba bn bc, .slice ia m ic] 25)).trans (hb.mono (by simp))
  clear hb h
  by_cases hbr : bare l bs = true
  · have HR := HS.out
    rw [if_pos hbr] at HR
    rw [hbr]
    subst HR
    go_wp2_with fail
    go_ret
    exact ⟨rfl, hb2⟩
  · have HR := HS.out
    have hbr2 : bare l bs = false := by simpa using hbr
    rw [if_neg hbr] at HR
    rw [hbr2]
    by_cases hn5 : 55 < n
    · rw [if_pos hn5] at HR
      have hn6 : (55 : Int) < n := by omega
      have HH := Hid.mk HR
      clear HR HS
      go_wp2_with fail
      go_loop [5, 6] (fun s q => ∃ sn qn : Nat, s = .int .i64 sn ∧ q = .int .i64 qn ∧ sn + nb qn = r ∧ qn < 1000000000 ∧ r < 1000000010) (fun s q => (intOf q).toNat)
      case atStart => exact ⟨1 + n, n, by simp, rfl, by rw [HH.out], hn, by rw [HH.out]; have := nb_le (n := n) (by omega); omega⟩
      case round =>
        obtain ⟨sn, qn, rfl, rfl, hs, hq, hr⟩ := hrel
        have HS := Hid.mk hs
        clear hs
        by_cases h0 : qn = 0
        · subst h0
          go_wp2_with fail
          go_ret
          have := HS.out
          rw [nb_zero] at this
          exact ⟨by rw [← this]; rfl, hb2⟩
        · have hq0 : (0 : Int) < qn := by omega
          have hsn : sn < 1000000010 := by have := HS.out; omega
          go_wp2_with fail
          go_round
          case rel => exact ⟨sn + 1, qn / 256, by simp, by simp, by have := HS.out; rw [nb_pos (by omega)] at this; omega, by omega, hr⟩
          case measure => simp [intOf]; omega
    · rw [if_neg hn5] at HR
      have hn6 : ¬ (55 : Int) < n := by omega
      subst HR
      go_wp2_with fail
      go_ret
      exact ⟨by simp, hb2⟩
end Go.Proofs.Ytkbdkenpblcofab

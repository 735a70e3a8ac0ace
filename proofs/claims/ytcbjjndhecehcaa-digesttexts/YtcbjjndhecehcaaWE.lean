/- That DigestLess answers true, for every three digests: each Less is the document's; it is an order. -/
import Derived.Test.YtcbjjndhecehcaaWD
namespace Go.Proofs.Ytcbjjndhecehcaa
open Go.RowKit
set_option linter.unusedVariables false
theorem lt32_irr : ∀ xs : List Int, lt32 xs xs = false
  | [] => rfl
  | x :: xs => by simp [lt32, lt32_irr xs]
theorem lt32_total : ∀ (xs ys : List Int), xs.length = ys.length → ¬ xs = ys → lt32 ys xs = !lt32 xs ys
  | [], [], _, h => absurd rfl h
  | [], _ :: _, hl, _ => by simp at hl
  | _ :: _, [], hl, _ => by simp at hl
  | x :: xs, y :: ys, hl, h => by
    by_cases e : x = y
    · subst e
      simp [lt32]
      exact lt32_total xs ys (by simpa using hl) (fun h2 => h (by rw [h2]))
    · have e2 : ¬ y = x := fun h => e h.symm
      simp [lt32, e, e2]
      by_cases h3 : x < y
      · simp [h3]; omega
      · simp [h3]; omega
theorem lt32_trans : ∀ (xs ys zs : List Int), lt32 xs ys = true → lt32 ys zs = true → lt32 xs zs = true
  | [], _, _, h, _ => by simp [lt32] at h
  | _ :: _, [], _, h, _ => by simp [lt32] at h
  | _ :: _, _ :: _, [], _, h => by simp [lt32] at h
  | x :: xs, y :: ys, z :: zs, h1, h2 => by
    by_cases e1 : x = y
    · subst e1
      by_cases e2 : x = z
      · subst e2
        simp [lt32] at *
        exact lt32_trans xs ys zs h1 h2
      · simp [lt32, e2] at *
        exact h2
    · by_cases e2 : y = z
      · subst e2
        simp [lt32, e1] at *
        exact h1
      · simp [lt32, e1, e2] at h1 h2
        have e3 : ¬ x = z := by omega
        simp [lt32, e3]
        omega
theorem Tri.call {n : Nat} {w0 v w1 : World} {A B C : Obj} (h : Tri n w0 v A B C) (hb : Below v.heap.size v w1) : Tri n w0 w1 A B C := by
  have l := lt_of_get h.hC
  exact ⟨(hb.block _ (by omega)).trans h.hA, (hb.block _ (by omega)).trans h.hB, (hb.block _ (by omega)).trans h.hC, h.bel.trans (hb.mono (by omega))⟩
attribute [local go_sem ↓] load24_fold
set_option maxHeartbeats 1000000 in
theorem lawLess (xs ys zs : List Int) (hx : xs.length = 32) (hy : ys.length = 32) (hz : zs.length = 32) (w : World) (be bx by_ bz bw : Bool)
    (ee : (xs == ys) = be) (ex : lt32 xs ys = bx) (ey : lt32 ys xs = by_) (ez : lt32 ys zs = bz) (ew : lt32 xs zs = bw)
    (hlaw : (be && bx) = false ∧ (!be && (bx == by_)) = false ∧ (!bx || !bz || bw) = true) :
    Calls Try.prog 6 #[.agg (B8 xs), .agg (B8 ys), .agg (B8 zs)] w fun e w' => e = .returned (.bool true) ∧ Below w.heap.size w w' := by
  have F := tri_new w (.cells (B8 xs) 24) (.cells (B8 ys) 24) (.cells (B8 zs) 24)
  have q1 : ∀ x, (Op.equalIn 10000 24 (.agg (B8 xs)) (.agg (B8 ys))).run Try.prog x = .ok be x := fun x => by rw [eq24 _ _ hx hy, ee]
  have HX := Hid.mk ex
  have HY := Hid.mk ey
  have HZ := Hid.mk ez
  have HW := Hid.mk ew
  have HL := Hid.mk hlaw
  have hxl := Hid.mk hx
  have hyl := Hid.mk hy
  have hzl := Hid.mk hz
  clear ex ey ez ew ee hlaw hx hy hz
  have l1 := load24_run F.hA hxl.out
  have l2 := load24_run F.hB hyl.out
  have l3 := load24_run F.hC hzl.out
  cases be <;> cases bx <;> cases by_ <;> cases bz <;> cases bw
  all_goals first | (exact absurd HL.out (by decide)) | skip
  all_goals
    clear HL
    go_enter Try.func6, Try.ntmps6
    go_wp2_with fail
    refine (less_any xs ys hxl.out hyl.out _).mono ?_
    rintro e w1 ⟨rfl, hb⟩
    replace F := F.call hb
    clear hb l1 l2 l3
    rw [HX.out]
    have l1 := load24_run F.hA hxl.out
    have l2 := load24_run F.hB hyl.out
    have l3 := load24_run F.hC hzl.out
    go_wp2_with fail
    refine (less_any ys xs hyl.out hxl.out _).mono ?_
    rintro e w2 ⟨rfl, hb⟩
    replace F := F.call hb
    clear hb l1 l2 l3
    rw [HY.out]
    have l1 := load24_run F.hA hxl.out
    have l2 := load24_run F.hB hyl.out
    have l3 := load24_run F.hC hzl.out
    go_wp2_with fail
    refine (less_any ys zs hyl.out hzl.out _).mono ?_
    rintro e w3 ⟨rfl, hb⟩
    replace F := F.call hb
    clear hb l1 l2 l3
    rw [HZ.out]
    have l1 := load24_run F.hA hxl.out
    have l2 := load24_run F.hB hyl.out
    have l3 := load24_run F.hC hzl.out
    go_wp2_with fail
    refine (less_any xs zs hxl.out hzl.out _).mono ?_
    rintro e w4 ⟨rfl, hb⟩
    replace F := F.call hb
    clear hb l1 l2 l3
    rw [HW.out]
    have l1 := load24_run F.hA hxl.out
    have l2 := load24_run F.hB hyl.out
    have l3 := load24_run F.hC hzl.out
    go_wp2_with fail
    refine (alive_any _).mono ?_
    rintro e w5 ⟨rfl, hb⟩
    replace F := F.call hb
    clear hb l1 l2 l3
    skip
    have l1 := load24_run F.hA hxl.out
    have l2 := load24_run F.hB hyl.out
    have l3 := load24_run F.hC hzl.out
    go_wp2_with fail
    refine (rless_any xs ys hxl.out hyl.out _).mono ?_
    rintro e w6 ⟨rfl, hb⟩
    replace F := F.call hb
    clear hb l1 l2 l3
    rw [HX.out]
    have l1 := load24_run F.hA hxl.out
    have l2 := load24_run F.hB hyl.out
    have l3 := load24_run F.hC hzl.out
    go_wp2_with fail
    refine (rless_any ys xs hyl.out hxl.out _).mono ?_
    rintro e w7 ⟨rfl, hb⟩
    replace F := F.call hb
    clear hb l1 l2 l3
    rw [HY.out]
    have l1 := load24_run F.hA hxl.out
    have l2 := load24_run F.hB hyl.out
    have l3 := load24_run F.hC hzl.out
    go_wp2_with fail
    go_ret
    exact ⟨rfl, F.bel⟩
theorem lawLess_any (xs ys zs : List Int) (hx : xs.length = 32) (hy : ys.length = 32) (hz : zs.length = 32) (w : World) :
    Calls Try.prog 6 #[.agg (B8 xs), .agg (B8 ys), .agg (B8 zs)] w fun e w' => e = .returned (.bool true) ∧ Below w.heap.size w w' := by
  refine lawLess xs ys zs hx hy hz w _ _ _ _ _ rfl rfl rfl rfl rfl ⟨?_, ?_, ?_⟩
  · by_cases e : xs = ys
    · subst e; simp [lt32_irr]
    · simp [e]
  · by_cases e : xs = ys
    · subst e; simp
    · rw [lt32_total xs ys (by omega) e]
      simp
  · cases h1 : lt32 xs ys
    · simp
    · cases h2 : lt32 ys zs
      · simp
      · rw [lt32_trans xs ys zs h1 h2]; simp
end Go.Proofs.Ytcbjjndhecehcaa

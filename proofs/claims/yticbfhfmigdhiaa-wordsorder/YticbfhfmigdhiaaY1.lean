/- Keys are ordered as words are. -/
import Derived.Test.YticbfhfmigdhiaaX0
namespace Go.Proofs.Yticbfhfmigdhiaa
open Go.RowKit
set_option linter.unusedVariables false
theorem bek_mod : ∀ k n : Nat, bek k (n % 256 ^ k) = bek k n
  | 0, _ => rfl
  | k + 1, n => by
    have e1 : n % 256 ^ (k + 1) / 256 = (n / 256) % 256 ^ k := by rw [Nat.pow_succ, Nat.mul_comm, Nat.mod_mul_right_div_self]
    have e2 : n % 256 ^ (k + 1) % 256 = n % 256 := by rw [Nat.pow_succ, Nat.mul_comm]; exact Nat.mod_mul_right_mod _ _ _
    rw [bek_succ, bek_succ, e1, e2, bek_mod k]
theorem less_bek : ∀ k m n : Nat, m < 256 ^ k → n < 256 ^ k → Op.bytesLess (strOfNums (bek k m)).toList (strOfNums (bek k n)).toList = decide (m < n)
  | 0, m, n, hm, hn => by
    rw [Nat.pow_zero] at hm hn
    rw [show m = 0 from by omega, show n = 0 from by omega, Go.Lib.strOfNums_toList]
    rfl
  | k + 1, m, n, hm, hn => by
    have ih := less_bek k (m % 256 ^ k) (n % 256 ^ k) (Nat.mod_lt _ (Nat.pow_pos (by decide))) (Nat.mod_lt _ (Nat.pow_pos (by decide)))
    rw [bek_mod, bek_mod] at ih
    rw [bek_front, bek_front]
    have dm := Nat.div_add_mod m (256 ^ k)
    have dn := Nat.div_add_mod n (256 ^ k)
    have am : m / 256 ^ k < 256 := (Nat.div_lt_iff_lt_mul (Nat.pow_pos (by decide))).2 (by rw [Nat.mul_comm, ← Nat.pow_succ]; exact hm)
    have an : n / 256 ^ k < 256 := (Nat.div_lt_iff_lt_mul (Nat.pow_pos (by decide))).2 (by rw [Nat.mul_comm, ← Nat.pow_succ]; exact hn)
    have lm := Nat.mod_lt m (Nat.pow_pos (n := k) (show 0 < 256 by decide))
    have ln := Nat.mod_lt n (Nat.pow_pos (n := k) (show 0 < 256 by decide))
    rw [Nat.mod_eq_of_lt am, Nat.mod_eq_of_lt an]
    generalize m / 256 ^ k = p at *
    generalize n / 256 ^ k = q at *
    generalize m % 256 ^ k = r at *
    generalize n % 256 ^ k = s at *
    generalize 256 ^ k = t at *
    rw [Go.Lib.strOfNums_toList, Go.Lib.strOfNums_toList] at ih ⊢
    have e : ∀ (a b : UInt8) (x y : List UInt8), Op.bytesLess (a :: x) (b :: y) = (decide (a < b) || (a == b && Op.bytesLess x y)) := fun _ _ _ _ => rfl
    rw [show Go.Lib.bytesOf ((p : Int) :: bek k m) = UInt8.ofNat p :: Go.Lib.bytesOf (bek k m) from rfl, show Go.Lib.bytesOf ((q : Int) :: bek k n) = UInt8.ofNat q :: Go.Lib.bytesOf (bek k n) from rfl, e, ih]
    have e1 : decide (UInt8.ofNat p < UInt8.ofNat q) = decide (p < q) := by
      rw [decide_eq_decide, UInt8.lt_iff_toNat_lt, UInt8.toNat_ofNat', UInt8.toNat_ofNat', Nat.mod_eq_of_lt am, Nat.mod_eq_of_lt an]
    have e2 : (UInt8.ofNat p == UInt8.ofNat q) = decide (p = q) := by
      by_cases h : p = q
      · rw [h]; simp
      · have : UInt8.ofNat p ≠ UInt8.ofNat q := fun hh => h (by
          have := congrArg UInt8.toNat hh
          rwa [UInt8.toNat_ofNat', UInt8.toNat_ofNat', Nat.mod_eq_of_lt am, Nat.mod_eq_of_lt an] at this)
        simp [h, this]
    rw [e1, e2]
    by_cases h1 : p < q
    · have : m < n := by
        have h2 : t * p + t ≤ t * q := by rw [← Nat.mul_succ]; exact Nat.mul_le_mul_left _ h1
        omega
      simp [h1, this]
    · by_cases h2 : p = q
      · subst h2
        have : (m < n) ↔ (r < s) := by omega
        simp [this]
      · have : ¬ m < n := by
          have h3 : t * q + t ≤ t * p := by rw [← Nat.mul_succ]; exact Nat.mul_le_mul_left _ (by omega)
          omega
        simp [h1, h2, this]
theorem nb_mono {m n : Nat} (h : m ≤ n) : nb m ≤ nb n := (nb_le_iff m (nb n)).2 (Nat.lt_of_le_of_lt h ((nb_le_iff n (nb n)).1 (Nat.le_refl _)))
end Go.Proofs.Yticbfhfmigdhiaa

/- A list of items that may be written each alone: it may be written, or is too deep: plain laws. -/
import Derived.Test.YtmaajddofmahpaaG11
namespace Go.Proofs.Ytmaajddofmahpaa
set_option linter.unusedVariables false
def Deep (d : Nat) (t : T) : Prop := ∀ w, w + (enc t).length ≤ 16777215 → ((wk t d w).2 = 0 ∧ (wk t d w).1 ≤ w + (enc t).length) ∨ (wk t d w).2 = 21
end Go.Proofs.Ytmaajddofmahpaa
/- Words as bytes and as texts: plain functions. -/
namespace Go.Proofs.Ytmaajddofmahpaa.Wo
set_option linter.unusedVariables false
/-- How many bytes a number has. -/
def nb (n : Nat) : Nat := if h : n = 0 then 0 else 1 + nb (n / 256)
decreasing_by exact Nat.div_lt_self (Nat.pos_of_ne_zero h) (by decide)
/-- The bytes of a number, the highest first. -/
def be (n : Nat) : List Int := if h : n = 0 then [] else be (n / 256) ++ [((n % 256 : Nat) : Int)]
decreasing_by exact Nat.div_lt_self (Nat.pos_of_ne_zero h) (by decide)
theorem nb_zero : nb 0 = 0 := by rw [nb]; rfl
theorem nb_pos {n : Nat} (h : 0 < n) : nb n = 1 + nb (n / 256) := by rw [nb, dif_neg (by omega)]
theorem be_zero : be 0 = [] := by rw [be]; rfl
theorem be_pos {n : Nat} (h : 0 < n) : be n = be (n / 256) ++ [((n % 256 : Nat) : Int)] := by rw [be, dif_neg (by omega)]
/-- The lowest k bytes of a number, the highest first. -/
def bek : Nat → Nat → List Int
  | 0, _ => []
  | k + 1, n => bek k (n / 256) ++ [((n % 256 : Nat) : Int)]
theorem bek_succ (k n : Nat) : bek (k + 1) n = bek k (n / 256) ++ [((n % 256 : Nat) : Int)] := rfl
theorem bek_len : ∀ k n : Nat, (bek k n).length = k
  | 0, _ => rfl
  | k + 1, n => by rw [bek_succ, List.length_append, bek_len k]; rfl
theorem bek_bd : ∀ k n : Nat, ∀ x ∈ bek k n, 0 ≤ x ∧ x < 256
  | 0, _, x, h => by cases h
  | k + 1, n, x, h => by
    rw [bek_succ] at h
    rcases List.mem_append.1 h with h | h
    · exact bek_bd k _ x h
    · have : x = ((n % 256 : Nat) : Int) := by simpa using h
      omega
theorem be_bek (n : Nat) : be n = bek (nb n) n := by
  induction n using Nat.strongRecOn with
  | _ n ih =>
    by_cases h : n = 0
    · subst h; rw [be_zero, nb_zero]; rfl
    · rw [be_pos (by omega), nb_pos (by omega), ih _ (Nat.div_lt_self (by omega) (by decide)), Nat.add_comm, bek_succ]
theorem be_len (n : Nat) : (be n).length = nb n := by rw [be_bek, bek_len]
theorem be_bd (n : Nat) : ∀ x ∈ be n, 0 ≤ x ∧ x < 256 := by rw [be_bek]; exact bek_bd _ _
theorem bek_front : ∀ k n : Nat, bek (k + 1) n = ((n / 256 ^ k % 256 : Nat) : Int) :: bek k n
  | 0, n => by rw [bek_succ]; simp [bek]
  | k + 1, n => by
    rw [bek_succ, bek_front k (n / 256), bek_succ k n, List.cons_append, Nat.div_div_eq_div_mul, Nat.pow_succ, Nat.mul_comm 256]
theorem nb_le_iff (n j : Nat) : nb n ≤ j ↔ n < 256 ^ j := by
  induction j generalizing n with
  | zero =>
    by_cases h : n = 0
    · subst h; rw [nb_zero]; decide
    · rw [nb_pos (by omega)]; simp; omega
  | succ j ih =>
    by_cases h : n = 0
    · subst h; rw [nb_zero]; exact ⟨fun _ => Nat.pow_pos (by decide), fun _ => by omega⟩
    · rw [nb_pos (by omega), show 1 + nb (n / 256) ≤ j + 1 ↔ nb (n / 256) ≤ j from by omega, ih, Nat.pow_succ]
      exact Nat.div_lt_iff_lt_mul (by decide)
theorem nb8 {n : Nat} (h : n < 18446744073709551616) : nb n ≤ 8 := (nb_le_iff n 8).2 h
/-- The number that bytes make. -/
def vl (b : List Int) : Nat := b.foldl (fun a x => a * 256 + x.toNat) 0
theorem vl_snoc (b : List Int) (x : Int) : vl (b ++ [x]) = vl b * 256 + x.toNat := by unfold vl; rw [List.foldl_append]; rfl
theorem vl_bek : ∀ k n : Nat, n < 256 ^ k → vl (bek k n) = n
  | 0, n, h => by rw [Nat.pow_zero] at h; rw [show n = 0 from by omega]; rfl
  | k + 1, n, h => by
    rw [bek_succ, vl_snoc, vl_bek k _ ((Nat.div_lt_iff_lt_mul (by decide)).2 (by rw [← Nat.pow_succ]; exact h))]
    omega
theorem vl_be (n : Nat) : vl (be n) = n := by rw [be_bek]; exact vl_bek _ _ ((nb_le_iff _ _).1 (Nat.le_refl _))
/-- The digits of a number. -/
def dg (n : Nat) : List Int := if h : n = 0 then [] else dg (n / 10) ++ [((48 + n % 10 : Nat) : Int)]
decreasing_by exact Nat.div_lt_self (Nat.pos_of_ne_zero h) (by decide)
/-- The text of a number. -/
def pr (n : Nat) : List Int := if n = 0 then [48] else dg n
def digits (s : List Int) : Prop := ∀ x ∈ s, 48 ≤ x ∧ x ≤ 57
/-- The number that digits make. -/
def dvl (s : List Int) : Nat := s.foldl (fun a x => a * 10 + (x - 48).toNat) 0
/-- A text that a number has. -/
def good (s : List Int) : Prop := s ≠ [] ∧ digits s ∧ ¬ (1 < s.length ∧ s.getD 0 0 = 48)
/-- What a text is read as. -/
def ps (s : List Int) : Nat × Bool := if pr (dvl s) = s ∧ dvl s < 18446744073709551616 then (dvl s, true) else (0, false)
end Go.Proofs.Ytmaajddofmahpaa.Wo

/- Words as bytes and as texts: plain functions. -/

namespace Go.Proofs.YtbjjboicfghldaaDoor.Wo
set_option linter.unusedVariables false
/-- How many bytes a number has. -/
def nb (n : Nat) : Nat := if h : n = 0 then 0 else 1 + nb (n / 256)
/-- The bytes of a number, the highest first. -/
def be (n : Nat) : List Int := if h : n = 0 then [] else be (n / 256) ++ [((n % 256 : Nat) : Int)]
theorem nb_zero : nb 0 = 0 := by rw [nb]; rfl
theorem nb_pos {n : Nat} (h : 0 < n) : nb n = 1 + nb (n / 256) := by rw [nb, dif_neg (by omega)]
theorem be_zero : be 0 = [] := by rw [be]; rfl
theorem be_pos {n : Nat} (h : 0 < n) : be n = be (n / 256) ++ [((n % 256 : Nat) : Int)] := by rw [be, dif_neg (by omega)]
theorem snoc_ind {P : List Int → Prop} (h0 : P []) (h1 : ∀ r x, P r → P (r ++ [x])) (l : List Int) : P l := by
  have : ∀ m : List Int, P m.reverse := by
    intro m
    induction m with
    | nil => exact h0
    | cons x r ih => rw [List.reverse_cons]; exact h1 _ _ ih
  have := this l.reverse
  rwa [List.reverse_reverse] at this
/-- The lowest k bytes of a number, the highest first. -/
def bek : Nat → Nat → List Int
  | 0, _ => []
  | k + 1, n => bek k (n / 256) ++ [((n % 256 : Nat) : Int)]
theorem bek_succ (k n : Nat) : bek (k + 1) n = bek k (n / 256) ++ [((n % 256 : Nat) : Int)] := rfl
theorem bek_len : ∀ k n : Nat, (bek k n).length = k
  | 0, _ => rfl
  | k + 1, n => by rw [bek_succ, List.length_append, bek_len k]; rfl
theorem bek_bd : ∀ k n : Nat, ∀ x ∈ bek k n, 0 ≤ x ∧ x < 256
  | 0, _, x, h => by cases h
  | k + 1, n, x, h => by
    rw [bek_succ] at h
    rcases List.mem_append.1 h with h | h
    · exact bek_bd k _ x h
    · have : x = ((n % 256 : Nat) : Int) := by simpa using h
      omega
theorem be_bek (n : Nat) : be n = bek (nb n) n := by
  induction n using Nat.strongRecOn with
  | _ n ih =>
    by_cases h : n = 0
    · subst h; rw [be_zero, nb_zero]; rfl
    · rw [be_pos (by omega), nb_pos (by omega), ih _ (Nat.div_lt_self (by omega) (by decide)), Nat.add_comm, bek_succ]
theorem be_len (n : Nat) : (be n).length = nb n := by rw [be_bek, bek_len]
theorem be_bd (n : Nat) : ∀ x ∈ be n, 0 ≤ x ∧ x < 256 := by rw [be_bek]; exact bek_bd _ _
theorem bek_front : ∀ k n : Nat, bek (k + 1) n = ((n / 256 ^ k % 256 : Nat) : Int) :: bek k n
  | 0, n => by rw [bek_succ]; simp [bek]
  | k + 1, n => by
    rw [bek_succ, bek_front k (n / 256), bek_succ k n, List.cons_append, Nat.div_div_eq_div_mul, Nat.pow_succ, Nat.mul_comm 256]
theorem nb_le_iff (n j : Nat) : nb n ≤ j ↔ n < 256 ^ j := by
  induction j generalizing n with
  | zero =>
    by_cases h : n = 0
    · subst h; rw [nb_zero]; decide
    · rw [nb_pos (by omega)]; simp; omega
  | succ j ih =>
    by_cases h : n = 0
    · subst h; rw [nb_zero]; exact ⟨fun _ => Nat.pow_pos (by decide), fun _ => by omega⟩
    · rw [nb_pos (by omega), show 1 + nb (n / 256) ≤ j + 1 ↔ nb (n / 256) ≤ j from by omega, ih, Nat.pow_succ]
      exact Nat.div_lt_iff_lt_mul (by decide)
theorem nb8 {n : Nat} (h : n < 18446744073709551616) : nb n ≤ 8 := (nb_le_iff n 8).2 h
/-- The number that bytes make. -/
def vl (b : List Int) : Nat := b.foldl (fun a x => a * 256 + x.toNat) 0
theorem vl_nil : vl [] = 0 := rfl
theorem vl_snoc (b : List Int) (x : Int) : vl (b ++ [x]) = vl b * 256 + x.toNat := by unfold vl; rw [List.foldl_append]; rfl
theorem vl_bek : ∀ k n : Nat, n < 256 ^ k → vl (bek k n) = n
  | 0, n, h => by rw [Nat.pow_zero] at h; rw [show n = 0 from by omega]; rfl
  | k + 1, n, h => by
    rw [bek_succ, vl_snoc, vl_bek k _ ((Nat.div_lt_iff_lt_mul (by decide)).2 (by rw [← Nat.pow_succ]; exact h))]
    omega
theorem vl_be (n : Nat) : vl (be n) = n := by rw [be_bek]; exact vl_bek _ _ ((nb_le_iff _ _).1 (Nat.le_refl _))
theorem bek_vl (b : List Int) : (∀ x ∈ b, 0 ≤ x ∧ x < 256) → bek b.length (vl b) = b := by
  induction b using snoc_ind with
  | h0 => intro _; rfl
  | h1 r x ih =>
    intro h
    have hx := h x (by simp)
    rw [List.length_append, vl_snoc, show r.length + [x].length = r.length + 1 from rfl, bek_succ]
    rw [show (vl r * 256 + x.toNat) / 256 = vl r from by omega, show ((vl r * 256 + x.toNat) % 256 : Nat) = x.toNat from by omega, ih (fun y hy => h y (by simp [hy]))]
    rw [show ((x.toNat : Nat) : Int) = x from by omega]
theorem vl_lt (b : List Int) : (∀ x ∈ b, 0 ≤ x ∧ x < 256) → vl b < 256 ^ b.length := by
  induction b using snoc_ind with
  | h0 => intro _; decide
  | h1 r x ih =>
    intro h
    have hx := h x (by simp)
    have hr := ih (fun y hy => h y (by simp [hy]))
    rw [List.length_append, vl_snoc, show r.length + [x].length = r.length + 1 from rfl, Nat.pow_succ]
    omega
theorem vl_inj {a b : List Int} (ha : ∀ x ∈ a, 0 ≤ x ∧ x < 256) (hb : ∀ x ∈ b, 0 ≤ x ∧ x < 256) (hl : a.length = b.length) (h : vl a = vl b) : a = b := by
  rw [← bek_vl a ha, ← bek_vl b hb, hl, h]
/-- Bytes are those of their number just if no 0 stands ahead. -/
theorem be_vl (b : List Int) (h : ∀ x ∈ b, 0 ≤ x ∧ x < 256) : be (vl b) = b ↔ ¬ (0 < b.length ∧ b.getD 0 0 = 0) := by
  constructor
  · rintro e ⟨h1, h2⟩
    obtain ⟨n, hn⟩ : ∃ n, vl b = n := ⟨_, rfl⟩
    rw [hn] at e
    subst e
    rw [be_len] at h1
    obtain ⟨k, hk⟩ : ∃ k, nb n = k + 1 := ⟨nb n - 1, by omega⟩
    rw [be_bek, hk, bek_front] at h2
    have a1 := (nb_le_iff n (k + 1)).1 (by omega)
    have a2 : ¬ n < 256 ^ k := fun h => by have := (nb_le_iff n k).2 h; omega
    have a3 : n / 256 ^ k < 256 := (Nat.div_lt_iff_lt_mul (Nat.pow_pos (by decide))).2 (by rw [Nat.mul_comm, ← Nat.pow_succ]; exact a1)
    have a4 : 0 < n / 256 ^ k := Nat.div_pos (by omega) (Nat.pow_pos (by decide))
    rw [List.getD_cons_zero] at h2
    generalize n / 256 ^ k = q at *
    omega
  · intro hh
    by_cases h0 : b.length = 0
    · rw [List.eq_nil_of_length_eq_zero h0]; exact be_zero
    · have hnb : nb (vl b) = b.length := by
        refine Nat.le_antisymm ((nb_le_iff _ _).2 (vl_lt b h)) (Nat.le_of_not_lt fun hlt => hh ⟨by omega, ?_⟩)
        obtain ⟨k, hk⟩ : ∃ k, b.length = k + 1 := ⟨b.length - 1, by omega⟩
        have a1 := (nb_le_iff (vl b) k).1 (by omega)
        have e := bek_vl b h
        rw [hk, bek_front, Nat.div_eq_of_lt a1] at e
        rw [← e]
        rfl
      rw [be_bek, hnb, bek_vl b h]
/-- The digits of a number. -/
def dg (n : Nat) : List Int := if h : n = 0 then [] else dg (n / 10) ++ [((48 + n % 10 : Nat) : Int)]
theorem dg_zero : dg 0 = [] := by rw [dg]; rfl
theorem dg_pos {n : Nat} (h : 0 < n) : dg n = dg (n / 10) ++ [((48 + n % 10 : Nat) : Int)] := by rw [dg, dif_neg (by omega)]
/-- The text of a number. -/
def pr (n : Nat) : List Int := if n = 0 then [48] else dg n
def digits (s : List Int) : Prop := ∀ x ∈ s, 48 ≤ x ∧ x ≤ 57
theorem dg_digits (n : Nat) : digits (dg n) := by
  induction n using Nat.strongRecOn with
  | _ n ih =>
    by_cases h : n = 0
    · subst h; rw [dg_zero]; intro x hx; cases hx
    · rw [dg_pos (by omega)]
      intro x hx
      rcases List.mem_append.1 hx with hx | hx
      · exact ih _ (Nat.div_lt_self (by omega) (by decide)) x hx
      · have : x = ((48 + n % 10 : Nat) : Int) := by simpa using hx
        omega
theorem pr_digits (n : Nat) : digits (pr n) := by
  unfold pr
  split
  · intro x hx; have : x = 48 := by simpa using hx
    omega
  · exact dg_digits n
theorem digits_bd {s : List Int} (h : digits s) : ∀ x ∈ s, 0 ≤ x ∧ x < 256 := fun x hx => by have := h x hx; omega
/-- The number that digits make. -/
def dvl (s : List Int) : Nat := s.foldl (fun a x => a * 10 + (x - 48).toNat) 0
theorem dvl_snoc (b : List Int) (x : Int) : dvl (b ++ [x]) = dvl b * 10 + (x - 48).toNat := by unfold dvl; rw [List.foldl_append]; rfl
theorem dvl_dg (n : Nat) : dvl (dg n) = n := by
  induction n using Nat.strongRecOn with
  | _ n ih =>
    by_cases h : n = 0
    · subst h; rw [dg_zero]; rfl
    · rw [dg_pos (by omega), dvl_snoc, ih _ (Nat.div_lt_self (by omega) (by decide))]
      omega
theorem dvl_pr (n : Nat) : dvl (pr n) = n := by
  unfold pr
  split
  · rename_i h; subst h; rfl
  · exact dvl_dg n
theorem dg_ne {n : Nat} (h : 0 < n) : dg n ≠ [] := by rw [dg_pos h]; simp
theorem dg_head (n : Nat) : (0 < n → (dg n).getD 0 0 ≠ 48) := by
  induction n using Nat.strongRecOn with
  | _ n ih =>
    intro h
    rw [dg_pos h]
    by_cases h0 : n / 10 = 0
    · rw [h0, dg_zero]; simp; omega
    · have hne := dg_ne (n := n / 10) (by omega)
      have := ih (n / 10) (Nat.div_lt_self h (by decide)) (by omega)
      cases hd : dg (n / 10) with
      | nil => exact absurd hd hne
      | cons x r => rw [hd] at this; exact this
theorem dg_dvl (s : List Int) : digits s → s.getD 0 48 ≠ 48 → dg (dvl s) = s := by
  induction s using snoc_ind with
  | h0 => intro _ h; exact absurd rfl h
  | h1 r x ih =>
    intro h hh
    have hx := h x (by simp)
    rw [dvl_snoc]
    cases r with
    | nil =>
      have hx2 : x ≠ 48 := hh
      rw [show dvl ([] : List Int) = 0 from rfl, dg_pos (by omega), show (0 * 10 + (x - 48).toNat) / 10 = 0 from by omega, dg_zero]
      simp; omega
    | cons y r =>
      have h1 := ih (fun z hz => h z (List.mem_append_left _ hz)) hh
      have h2 : 0 < dvl (y :: r) := by
        rcases Nat.eq_zero_or_pos (dvl (y :: r)) with h0 | h0
        · rw [h0, dg_zero] at h1; cases h1
        · exact h0
      rw [dg_pos (by omega), show (dvl (y :: r) * 10 + (x - 48).toNat) / 10 = dvl (y :: r) from by omega, h1, show ((48 + (dvl (y :: r) * 10 + (x - 48).toNat) % 10 : Nat) : Int) = x from by omega]
theorem dg_len (n : Nat) : ∀ k, n < 10 ^ k → (dg n).length ≤ k := by
  induction n using Nat.strongRecOn with
  | _ n ih =>
    intro k hk
    by_cases h : n = 0
    · subst h; rw [dg_zero]; exact Nat.zero_le _
    · cases k with
      | zero => rw [Nat.pow_zero] at hk; omega
      | succ k =>
        rw [dg_pos (by omega), List.length_append]
        have := ih (n / 10) (Nat.div_lt_self (by omega) (by decide)) k ((Nat.div_lt_iff_lt_mul (by decide)).2 (by rw [← Nat.pow_succ]; exact hk))
        simp; omega
/-- A text that a number has. -/
def good (s : List Int) : Prop := s ≠ [] ∧ digits s ∧ ¬ (1 < s.length ∧ s.getD 0 0 = 48)
theorem pr_good (n : Nat) : good (pr n) := by
  refine ⟨?_, pr_digits n, ?_⟩
  · unfold pr; split
    · simp
    · rename_i h; exact dg_ne (by omega)
  · unfold pr; split
    · rintro ⟨h, _⟩; simp at h
    · rename_i h; rintro ⟨_, h2⟩; exact dg_head n (by omega) h2
theorem pr_dvl {s : List Int} (h : good s) : pr (dvl s) = s := by
  obtain ⟨h1, h2, h3⟩ := h
  cases s with
  | nil => exact absurd rfl h1
  | cons x r =>
    have hx := h2 x (by simp)
    by_cases hx0 : x = 48
    · subst hx0
      cases r with
      | nil => rfl
      | cons y r => exact absurd ⟨by simp, rfl⟩ h3
    · have hd := dg_dvl (x :: r) h2 (by simpa using hx0)
      unfold pr
      rw [if_neg (fun h0 => by rw [h0, dg_zero] at hd; cases hd), hd]
theorem pr_len {n : Nat} (h : n < 18446744073709551616) : (pr n).length ≤ 20 := by
  unfold pr
  split
  · decide
  · exact dg_len n 20 (by have : (18446744073709551616 : Nat) ≤ 10 ^ 20 := by decide
                          omega)
/-- What a text is read as. -/
def ps (s : List Int) : Nat × Bool := if pr (dvl s) = s ∧ dvl s < 18446744073709551616 then (dvl s, true) else (0, false)
theorem ps_pr {n : Nat} (h : n < 18446744073709551616) : ps (pr n) = (n, true) := by unfold ps; rw [dvl_pr, if_pos ⟨rfl, h⟩]
theorem ps_yes {s : List Int} (h : good s) (h2 : dvl s < 18446744073709551616) : ps s = (dvl s, true) := by unfold ps; rw [if_pos ⟨pr_dvl h, h2⟩]
theorem ps_no {s : List Int} (h : ¬ (good s ∧ dvl s < 18446744073709551616)) : ps s = (0, false) := by
  unfold ps
  rw [if_neg]
  rintro ⟨h1, h2⟩
  exact h ⟨by rw [← h1]; exact pr_good _, h2⟩
theorem ps_back {s : List Int} (h : (ps s).2 = true) : pr (ps s).1 = s ∧ (ps s).1 < 18446744073709551616 := by
  unfold ps at h ⊢
  split at h
  · rename_i hc; rw [if_pos hc]; exact hc
  · cases h
theorem ps_lt (s : List Int) : (ps s).1 < 18446744073709551616 := by
  unfold ps
  split
  · rename_i h; exact h.2
  · decide
theorem dvl_take_le {s : List Int} {j : Nat} (hj : j < s.length) : dvl (s.take (j + 1)) = dvl (s.take j) * 10 + (s.getD j 0 - 48).toNat := by
  rw [List.take_add_one, List.getElem?_eq_getElem hj]
  simp only [Option.toList_some, dvl_snoc, List.getD, List.getElem?_eq_getElem hj, Option.getD_some]
theorem vl_take {s : List Int} {j : Nat} (hj : j < s.length) : vl (s.take (j + 1)) = vl (s.take j) * 256 + (s.getD j 0).toNat := by
  rw [List.take_add_one, List.getElem?_eq_getElem hj]
  simp only [Option.toList_some, vl_snoc, List.getD, List.getElem?_eq_getElem hj, Option.getD_some]
theorem dvl_app_le (a b : List Int) : dvl a ≤ dvl (a ++ b) := by
  induction b using snoc_ind with
  | h0 => rw [List.append_nil]; exact Nat.le_refl _
  | h1 r x ih => rw [← List.append_assoc, dvl_snoc]; omega
theorem dvl_take_mono (s : List Int) (j : Nat) : dvl (s.take j) ≤ dvl s := by
  have := dvl_app_le (s.take j) (s.drop j)
  rwa [List.take_append_drop] at this
end Go.Proofs.YtbjjboicfghldaaDoor.Wo

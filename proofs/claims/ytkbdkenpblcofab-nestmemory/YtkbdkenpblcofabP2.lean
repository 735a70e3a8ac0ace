/- What bytes begin with: plain functions. -/
import Derived.Test.YtkbdkenpblcofabP1
namespace Go.Proofs.Ytkbdkenpblcofab
set_option linter.unusedVariables false
/-- The number that bytes tell, the highest first. -/
def val (b : List Int) : Nat := b.foldl (fun n x => n * 256 + x.toNat) 0
theorem val_snoc (b : List Int) (x : Int) : val (b ++ [x]) = val b * 256 + x.toNat := by simp [val]
theorem val_lt : ∀ (k : Nat) (b : List Int), b.length = k → (∀ x ∈ b, 0 ≤ x ∧ x < 256) → val b < 256 ^ k
  | 0, b, h, _ => by rw [List.eq_nil_of_length_eq_zero h]; decide
  | k + 1, b, h, hb => by
    obtain ⟨i, x, rfl⟩ : ∃ i x, b = i ++ [x] := ⟨b.dropLast, b.getLast (by intro hh; rw [hh] at h; simp at h), (List.dropLast_concat_getLast _).symm⟩
    rw [val_snoc]
    have h1 := val_lt k i (by simp at h; omega) (fun y hy => hb y (List.mem_append_left _ hy))
    have h2 := hb x (by simp)
    rw [Nat.pow_succ]
    omega
theorem val_take {b : List Int} (hb : ∀ x ∈ b, 0 ≤ x ∧ x < 256) {j : Nat} (hj : j ≤ b.length) (h3 : j ≤ 3) : val (b.take j) < 256 ^ j ∧ 256 ^ j ≤ 16777216 := by
  refine ⟨val_lt j _ (by rw [List.length_take]; omega) (fun x hx => hb x (List.mem_of_mem_take hx)), ?_⟩
  have : j = 0 ∨ j = 1 ∨ j = 2 ∨ j = 3 := by omega
  rcases this with rfl | rfl | rfl | rfl <;> decide
theorem val_succ {b : List Int} {j : Nat} (hj : j < b.length) : val (b.take (j + 1)) = val (b.take j) * 256 + (b.getD j 0).toNat := by
  rw [take_succ_get (List.getElem?_eq_getElem hj), val_snoc]
  simp [List.getElem?_eq_getElem hj]
/-- A length that stands in c bytes: it, and the error. -/
def lenIn (b : List Int) (c : Nat) : Nat × Nat :=
  if 3 < c then (0, 23) else if b.length < c then (0, 22) else if b.headD 0 = 0 ∨ val (b.take c) ≤ 55 then (0, 23) else (val (b.take c), 0)
inductive HR where
  | bad (e : Nat)
  | ok (f t : Nat)
def nOf (c : Int) : Nat := (c - (if 192 ≤ c then 192 else 128)).toNat
/-- From where to where the body stands of the item that bytes begin with; deep: a list may not stand here. -/
def hdr (deep : Bool) (b : List Int) : HR :=
  match b with
  | [] => .bad 22
  | c :: r =>
    if 192 ≤ c ∧ deep = true then .bad 21
    else if c < 128 then .ok 0 1
    else if 55 < nOf c then
      if (lenIn r (nOf c - 55)).2 ≠ 0 then .bad (lenIn r (nOf c - 55)).2
      else if b.length - (1 + (nOf c - 55)) < (lenIn r (nOf c - 55)).1 then .bad 22
      else .ok (1 + (nOf c - 55)) (1 + (nOf c - 55) + (lenIn r (nOf c - 55)).1)
    else if b.length - 1 < nOf c then .bad 22 else .ok 1 (1 + nOf c)
inductive R where
  | bad (e : Nat)
  | ok (t : T) (n : Nat)
inductive RL where
  | bad (e : Nat)
  | ok (ts : List T)
/-- All items of a body. -/
def rdAll (f : List Int → R) : Nat → List Int → RL
  | _, [] => .ok []
  | 0, _ :: _ => .bad 0
  | n + 1, x :: b => match f (x :: b) with
    | .bad e => .bad e
    | .ok t m => match rdAll f n ((x :: b).drop m) with
      | .bad e => .bad e
      | .ok ts => .ok (t :: ts)
/-- The item that bytes begin with. -/
def rd1 (g : List Int → R) (deep : Bool) (b : List Int) : R :=
  match hdr deep b with
  | .bad e => .bad e
  | .ok f t =>
    if b.headD 0 < 192 then (if f = 1 ∧ t = 2 ∧ b.getD 1 0 < 128 then .bad 23 else .ok (.mk false ((b.take t).drop f) []) t)
    else match rdAll g ((b.take t).drop f).length ((b.take t).drop f) with
      | .bad e => .bad e
      | .ok ts => .ok (.mk true [] ts) t
def rd : Nat → List Int → R
  | 0 => rd1 (fun _ => .bad 21) true
  | k + 1 => rd1 (rd k) false
theorem lenIn_ok {b : List Int} {c : Nat} (h : (lenIn b c).2 = 0) : c ≤ 3 ∧ c ≤ b.length ∧ b.headD 0 ≠ 0 ∧ 55 < val (b.take c) ∧ (lenIn b c).1 = val (b.take c) := by
  unfold lenIn at *
  by_cases h1 : 3 < c
  · rw [if_pos h1] at h; cases h
  · rw [if_neg h1] at h ⊢
    by_cases h2 : b.length < c
    · rw [if_pos h2] at h; cases h
    · rw [if_neg h2] at h ⊢
      by_cases h3 : b.headD 0 = 0 ∨ val (b.take c) ≤ 55
      · rw [if_pos h3] at h; cases h
      · rw [if_neg h3]
        exact ⟨by omega, by omega, fun h => h3 (.inl h), by omega, rfl⟩
theorem lenIn_bad {b : List Int} {c : Nat} (h : (lenIn b c).2 ≠ 0) : (lenIn b c).1 = 0 := by
  unfold lenIn at *
  by_cases h1 : 3 < c
  · rw [if_pos h1]
  · rw [if_neg h1] at h ⊢
    by_cases h2 : b.length < c
    · rw [if_pos h2]
    · rw [if_neg h2] at h ⊢
      by_cases h3 : b.headD 0 = 0 ∨ val (b.take c) ≤ 55
      · rw [if_pos h3]
      · rw [if_neg h3] at h; exact absurd rfl h
theorem hdr_ok {deep : Bool} {b : List Int} {f t : Nat} (h : hdr deep b = .ok f t) : f ≤ t ∧ t ≤ b.length ∧ 1 ≤ t ∧ 0 < b.length := by
  unfold hdr at h
  split at h
  · cases h
  · rename_i c r
    split at h
    · cases h
    · split at h
      · cases h; simp
      · split at h
        · split at h
          · cases h
          · rename_i h3 h4
            have := lenIn_ok (Decidable.not_not.1 h4)
            split at h
            · cases h
            · cases h
              simp only [List.length_cons] at *
              omega
        · split at h
          · cases h
          · cases h
            simp only [List.length_cons] at *
            omega
theorem rd1_n {g : List Int → R} {deep : Bool} {b : List Int} {t : T} {n : Nat} (h : rd1 g deep b = .ok t n) : 1 ≤ n ∧ n ≤ b.length := by
  unfold rd1 at h
  split at h
  · cases h
  · rename_i f t' hh
    have := hdr_ok hh
    split at h
    · split at h
      · cases h
      · cases h; omega
    · split at h
      · cases h
      · cases h; omega
theorem rd_n {k : Nat} {b : List Int} {t : T} {n : Nat} (h : rd k b = .ok t n) : 1 ≤ n ∧ n ≤ b.length := by
  cases k with
  | zero => exact rd1_n h
  | succ k => exact rd1_n h
theorem rdAll_nil (f : List Int → R) (n : Nat) : rdAll f n [] = .ok [] := by cases n <;> rfl
theorem rdAll_bad {f : List Int → R} {n e : Nat} {b : List Int} (hb : b ≠ []) (h : f b = .bad e) : rdAll f (n + 1) b = .bad e := by
  cases b with
  | nil => exact absurd rfl hb
  | cons x b => rw [rdAll, h]
theorem rdAll_ok {f : List Int → R} {n m : Nat} {t : T} {b : List Int} (hb : b ≠ []) (h : f b = .ok t m) : rdAll f (n + 1) b = match rdAll f n (b.drop m) with | .bad e => .bad e | .ok ts => .ok (t :: ts) := by
  cases b with
  | nil => exact absurd rfl hb
  | cons x b => rw [rdAll, h]
/-- More fuel does not turn the answer. -/
theorem rdAll_fuel {f : List Int → R} (hf : ∀ b t m, f b = .ok t m → 1 ≤ m) : ∀ n m b, b.length ≤ n → b.length ≤ m → rdAll f n b = rdAll f m b
  | _, _, [], _, _ => by rw [rdAll_nil, rdAll_nil]
  | n + 1, m + 1, x :: b, h1, h2 => by
    cases h : f (x :: b) with
    | bad e => rw [rdAll_bad (by simp) h, rdAll_bad (by simp) h]
    | ok t k =>
      have hk := hf _ _ _ h
      rw [rdAll_ok (by simp) h, rdAll_ok (by simp) h, rdAll_fuel hf n m ((x :: b).drop k) (by simp at *; omega) (by simp at *; omega)]
end Go.Proofs.Ytkbdkenpblcofab

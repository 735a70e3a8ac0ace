/- What Encode answers, of every item. -/
import Derived.Test.YtmaajddofmahpaaG04
import Derived.Test.YtmaajddofmahpaaG05
import Derived.Deep.OwnRows
import Derived.Laws.OwnMore
import Derived.Test.YtmaajddofmahpaaG00
namespace Go.Proofs.Ytmaajddofmahpaa
open Go.RowKit
set_option linter.unusedVariables false
/-- What Encode tells: the bytes, and the error. -/
def encP (t : T) : List Int × Nat := if (mP t).2 = 0 then (enc t, 0) else ([], (mP t).2)
theorem mP_ok {t : T} (h : (mP t).2 = 0) : (wk t 0 0).2 = 0 ∧ szb t ≤ 16777215 ∧ (mP t).1 = sz t := by
  unfold mP at *
  by_cases h1 : (wk t 0 0).2 = 0
  · rw [if_neg (by rw [h1]; simp)] at h ⊢
    by_cases h2 : 16777215 < szb t
    · rw [if_pos h2] at h; cases h
    · rw [if_neg h2]; exact ⟨h1, by omega, rfl⟩
  · rw [if_pos h1] at h; exact absurd h h1
theorem be_bounds (n : Nat) : ∀ x ∈ be n, 0 ≤ x ∧ x < 256 := by
  induction n using Nat.strongRecOn with
  | _ n ih =>
    by_cases h : n = 0
    · subst h; rw [be_zero]; intro x hx; cases hx
    · rw [be_pos (by omega)]
      intro x hx
      rcases List.mem_append.1 hx with hx | hx
      · exact ih _ (Nat.div_lt_self (by omega) (by decide)) x hx
      · simp at hx; omega
theorem hd_bounds {l : Bool} {n : Nat} (hn : n < 16777216) : ∀ x ∈ hd (baseOf l) n, 0 ≤ x ∧ x < 256 := by
  have hb : baseOf l ≤ 192 := by cases l <;> decide
  intro x hx
  unfold hd at hx
  split at hx
  · simp at hx; omega
  · rcases List.mem_cons.1 hx with rfl | hx
    · have := nb_le3 hn; omega
    · exact be_bounds n x hx
theorem encs_bounds {its : List T} (ih : ∀ t ∈ its, byt t → (bodyOf t).length < 16777216 → ∀ x ∈ enc t, 0 ≤ x ∧ x < 256) : byts its → (encs its).length < 16777216 → ∀ x ∈ encs its, 0 ≤ x ∧ x < 256 := by
  induction its with
  | nil => intro _ _ x hx; rw [encs_nil] at hx; cases hx
  | cons t r ihr =>
    intro hb hl x hx
    obtain ⟨h1, h2⟩ := (byts_cons t r).1 hb
    rw [encs_cons] at hx hl
    rw [List.length_append] at hl
    rcases List.mem_append.1 hx with hx | hx
    · exact ih t (List.mem_cons_self ..) h1 (by have := enc_ge t; omega) x hx
    · exact ihr (fun u hu => ih u (List.mem_cons_of_mem _ hu)) h2 (by omega) x hx
theorem enc_bounds : ∀ t, byt t → (bodyOf t).length < 16777216 → ∀ x ∈ enc t, 0 ≤ x ∧ x < 256 := by
  refine T.ind fun l bs its ih hb hl x hx => ?_
  obtain ⟨h1, h2⟩ := (byt_eq l bs its).1 hb
  have hl2 : (bs ++ encs its).length < 16777216 := hl
  have hbody : ∀ x ∈ bs ++ encs its, 0 ≤ x ∧ x < 256 := mem_app h1 (encs_bounds ih h2 (by rw [List.length_append] at hl2; omega))
  rw [enc_eq] at hx
  split at hx
  · exact hbody x hx
  · rcases List.mem_append.1 hx with hx | hx
    · exact hd_bounds hl2 x hx
    · exact hbody x hx
theorem encP_ok {t : T} (h : (mP t).2 = 0) : (mP t).1 = (enc t).length ∧ (bodyOf t).length < 16777216 ∧ form t = true := by
  obtain ⟨h1, h2, h3⟩ := mP_ok h
  have hf := wk_form t 0 0 h1
  rw [h3, sz_len t hf, ← szb_len hf]
  exact ⟨rfl, by omega, hf⟩
theorem enc_len_le {t : T} (hb : (bodyOf t).length < 16777216) : (enc t).length ≤ 16777220 := by
  obtain ⟨l, bs, its⟩ := t
  have hb2 : (bs ++ encs its).length < 16777216 := hb
  rw [enc_eq]
  split
  · omega
  · rw [List.length_append, hd_len]
    have := nb_le3 hb2
    split <;> omega
theorem made_bytes (n : Nat) : madeCells #[Value.int .u8 0] n = ((List.replicate n (0 : Int)).map (Value.int .u8)).toArray := by
  apply Array.ext'
  rw [toList_madeCells_one]
  simp
theorem row_ag {w : World} {g n : Nat} {bs : List Int} (h : Row g w bs) (hl : bs.length = n) (hb : ∀ x ∈ bs, 0 ≤ x ∧ x < 256) (hn : n ≤ 9223372036854775807) : Ag w (some ⟨g, 0, none⟩) n n bs := by
  refine ⟨?_, (fun h => by cases h), hl, hb⟩
  by_cases h0 : n = 0
  · exact .inl ⟨h0, List.eq_nil_of_length_eq_zero (by omega)⟩
  · exact .inr ⟨g, 0, rfl, hl, by omega, Nat.le_refl _, by unfold maxLen; omega, fun j hj => by rw [Nat.zero_add]; exact h.cell hj⟩
theorem info5b : (Try.prog.info? 5).map (fun i => (i.zero, i.size, i.bytes)) = some (some (.int .u8 0), 1, 1) := by kernel_rfl
end Go.Proofs.Ytmaajddofmahpaa
/- What is read is written as the same bytes, and may be written: plain laws. -/
namespace Go.Proofs.Ytmaajddofmahpaa
set_option linter.unusedVariables false
/-- What a good reading says of the item: its encoding is what was read; its weight is no greater. -/
def Good (d : Nat) (b : List Int) (t : T) (n : Nat) : Prop :=
  enc t = b.take n ∧ form t = true ∧ ∀ w, w + n ≤ 16777215 → (wk t d w).2 = 0 ∧ (wk t d w).1 ≤ w + n
end Go.Proofs.Ytmaajddofmahpaa

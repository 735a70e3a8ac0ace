/- What read, First and Decode answer. -/
import Derived.Test.YtmaajddofmahpaaG10
import Derived.Test.YtmaajddofmahpaaG06
namespace Go.Proofs.Ytmaajddofmahpaa
open Go.RowKit
set_option linter.unusedVariables false
set_option maxRecDepth 100000
theorem read_step (k : Nat) (gg : List Int → R) (hrd : ∀ b, rd k b = rd1 gg (decide (k = 0)) b) (hlen : ∀ b t m, gg b = .ok t m → 1 ≤ m ∧ m ≤ b.length)
    (hall : 0 < k → ∀ (d : Nat), d + k = 8 → ∀ (a : Option Addr) (n c : Nat) (b : List Int) (w : World), Ag w a n c b → n < 16777216 → Calls Try.prog 66 #[.slice a n c, .int .i64 (d + 1 : Nat)] w (AllPost w (rdAll gg b.length b))) : ReadSaid k := by
  intro a n c d b w h hd hn
  rw [hrd]
  have hdec : decide (k = 0) = decide (d = 8) := by by_cases h0 : k = 0 <;> simp [h0] <;> omega
  rw [hdec]
  unfold rd1
  cases hh : hdr (decide (d = 8)) b with
  | bad e => exact read_bad a n c d b w h (by omega) hn e hh
  | ok f t =>
    cases b with
    | nil => simp [hdr] at hh
    | cons x r =>
      dsimp only
      by_cases hx : (x :: r).headD 0 < 192
      · rw [if_pos hx]
        exact read_text a n c d x r w h (by omega) hn f t hh hx _ rfl
      · rw [if_neg hx]
        have hx2 : ¬ x < 192 := hx
        have hk : 0 < k := by
          cases k with
          | succ k => omega
          | zero =>
            exfalso
            have hd8 : decide (d = 8) = true := by simp; omega
            rw [hd8, hdr_deep (by omega)] at hh
            cases hh
        exact read_list gg hlen a n c d x r w h (by omega) hn f t hh (by omega) _ (hall hk d hd) rfl
theorem read_any : ∀ k, ReadSaid k
  | 0 => read_step 0 (fun _ => .bad 21) (fun b => rfl) (fun b t m h => by cases h) (fun h => absurd h (by omega))
  | k + 1 => read_step (k + 1) (rd k) (fun b => rfl) (fun b t m h => rd_n h) (fun _ d hd a n c b w h hn => readAll_any k (read_any k) a n c (d + 1) b w h (by omega) hn)
inductive RT where
  | bad (e : Nat)
  | ok (t : T)
/-- What Decode tells. -/
def decP (b : List Int) : RT := match rd 8 b with
  | .bad e => .bad e
  | .ok t n => if n < b.length then .bad 24 else .ok t
def DecPost (w : World) (r : RT) : Ending → World → Prop := fun e w' => Below w.heap.size w w' ∧
  match r with
  | .bad er => e = .returned (.tuple #[.agg #[.bool false, .slice none 0 0, .slice none 0 0], .int .i64 (er : Nat)]) ∧ er ≠ 0
  | .ok t => ∃ y : V, e = .returned (.tuple #[.agg #[.bool y.l, .slice y.ba y.bn y.bc, .slice y.ia y.m y.ic], .int .i64 0]) ∧ LiesP (fun b => w.heap.size ≤ b) w' t y
/-- Any world of which something holds, in the place of one. -/
theorem gen_w {W : World} {p q : World → Prop} (F : q W) (h : ∀ v, q v → p v) : p W := h W F
/-- The result's block, while a call goes on. -/
structure Rb (w v : World) : Prop where
  row : v.heap[w.heap.size]? = some (.cells #[.bool false, .slice none 0 0, .slice none 0 0] 46)
  bel : Below w.heap.size w v
end Go.Proofs.Ytmaajddofmahpaa
/- What is written is read as it was; of an encoding no shorter piece is one: plain laws. -/
namespace Go.Proofs.Ytmaajddofmahpaa
set_option linter.unusedVariables false
theorem hd_pos (base n : Nat) : 1 ≤ (hd base n).length := by rw [hd_len]; omega
theorem enc_pos (t : T) : 1 ≤ (enc t).length := by
  obtain ⟨l, bs, its⟩ := t
  rw [enc_eq]
  split
  · rename_i h
    unfold bare at h
    simp only [Bool.and_eq_true, decide_eq_true_eq] at h
    have := h.2.1
    omega
  · rw [List.length_append]
    have := hd_pos (baseOf l) (bs ++ encs its).length
    omega
theorem body_le_enc (t : T) : (bodyOf t).length ≤ (enc t).length := by
  obtain ⟨l, bs, its⟩ := t
  show (bs ++ encs its).length ≤ _
  rw [enc_eq]
  split
  · exact Nat.le_refl _
  · exact Nat.le_trans (Nat.le_add_left _ _) (Nat.le_of_eq List.length_append.symm)
theorem encs_mem_le : ∀ {its : List T} {t : T}, t ∈ its → (enc t).length ≤ (encs its).length
  | x :: r, t, ht => by
    rw [encs_cons, List.length_append]
    rcases List.mem_cons.1 ht with rfl | ht
    · omega
    · have := encs_mem_le ht
      omega
end Go.Proofs.Ytmaajddofmahpaa

/- What read, First and Decode answer. -/
import Derived.Test.YtmaajddofmahpaaG10
import Derived.Test.YtmaajddofmahpaaG06
namespace Go.Proofs.Ytmaajddofmahpaa
open Go.RowKit
set_option linter.unusedVariables false
set_option maxRecDepth 100000
inductive RT where
  | bad (e : Nat)
  | ok (t : T)
/-- What Decode tells. -/
def decP (b : List Int) : RT := match rd 8 b with
  | .bad e => .bad e
  | .ok t n => if n < b.length then .bad 24 else .ok t
def DecPost (w : World) (r : RT) : Ending → World → Prop := fun e w' => Below w.heap.size w w' ∧
  match r with
  | .bad er => e = .returned (.tuple #[.agg #[.bool false, .slice none 0 0, .slice none 0 0], .int .i64 (er : Nat)]) ∧ er ≠ 0
  | .ok t => ∃ y : V, e = .returned (.tuple #[.agg #[.bool y.l, .slice y.ba y.bn y.bc, .slice y.ia y.m y.ic], .int .i64 0]) ∧ LiesP (fun b => w.heap.size ≤ b) w' t y
/-- Any world of which something holds, in the place of one. -/
theorem gen_w {W : World} {p q : World → Prop} (F : q W) (h : ∀ v, q v → p v) : p W := h W F
/-- The result's block, while a call goes on. -/
structure Rb (w v : World) : Prop where
  row : v.heap[w.heap.size]? = some (.cells #[.bool false, .slice none 0 0, .slice none 0 0] 46)
  bel : Below w.heap.size w v
end Go.Proofs.Ytmaajddofmahpaa
/- What is written is read as it was; of an encoding no shorter piece is one: plain laws. -/
namespace Go.Proofs.Ytmaajddofmahpaa
set_option linter.unusedVariables false
theorem hd_pos (base n : Nat) : 1 ≤ (hd base n).length := by rw [hd_len]; omega
theorem enc_pos (t : T) : 1 ≤ (enc t).length := by
  obtain ⟨l, bs, its⟩ := t
  rw [enc_eq]
  split
  · rename_i h
    unfold bare at h
    simp only [Bool.and_eq_true, decide_eq_true_eq] at h
    have := h.2.1
    omega
  · rw [List.length_append]
    have := hd_pos (baseOf l) (bs ++ encs its).length
    omega
theorem body_le_enc (t : T) : (bodyOf t).length ≤ (enc t).length := by
  obtain ⟨l, bs, its⟩ := t
  show (bs ++ encs its).length ≤ _
  rw [enc_eq]
  split
  · exact Nat.le_refl _
  · exact Nat.le_trans (Nat.le_add_left _ _) (Nat.le_of_eq List.length_append.symm)
theorem encs_mem_le : ∀ {its : List T} {t : T}, t ∈ its → (enc t).length ≤ (encs its).length
  | x :: r, t, ht => by
    rw [encs_cons, List.length_append]
    rcases List.mem_cons.1 ht with rfl | ht
    · omega
    · have := encs_mem_le ht
      omega
end Go.Proofs.Ytmaajddofmahpaa

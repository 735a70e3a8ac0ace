/- Blanks and words of a text; what a range over a text meets; a text that is read. -/
import Derived.Test.YtbjjboicfghldabDoorG21
import Derived.Test.YtbjjboicfghldabDoorG22
import Derived.Laws.RangeAny
namespace Go.Proofs.YtbjjboicfghldabDoor
open Go.RowKit
open Wo
set_option linter.unusedVariables false
set_option maxRecDepth 100000
theorem rn_le (l : List Int) (b : Bool) : rn l b ≤ l.length := (List.takeWhile_sublist _).length_le
theorem rn_nil (b : Bool) : rn [] b = 0 := rfl
theorem rn_cons (x : Int) (r : List Int) (b : Bool) : rn (x :: r) b = if bl x = b then rn r b + 1 else 0 := by
  unfold rn
  rw [List.takeWhile_cons]
  by_cases h : bl x = b
  · rw [if_pos h, if_pos (by simpa using h), List.length_cons]
  · rw [if_neg h, if_neg (by simpa using h)]; rfl
theorem rn_eq : ∀ (l : List Int) (b : Bool) (p : Nat), p ≤ l.length → (∀ j, j < p → bl (l.getD j 0) = b) → (p = l.length ∨ bl (l.getD p 0) ≠ b) → rn l b = p
  | [], b, p, h, _, _ => by simp at h; subst h; rfl
  | x :: r, b, 0, _, _, h => by
    rw [rn_cons, if_neg]
    rcases h with h | h
    · simp at h
    · simpa using h
  | x :: r, b, p + 1, hl, hj, h => by
    rw [rn_cons, if_pos (by simpa using hj 0 (by omega)), rn_eq r b p (by simpa using hl) (fun j hjp => by simpa using hj (j + 1) (by omega)) (by simpa using h)]
theorem rn_all {l : List Int} {b : Bool} {j : Nat} (h : j < rn l b) : bl (l.getD j 0) = b := by
  induction l generalizing j with
  | nil => rw [rn_nil] at h; omega
  | cons x r ih =>
    rw [rn_cons] at h
    split at h
    · cases j with
      | zero => simpa
      | succ j => simpa using ih (j := j) (by omega)
    · omega
theorem rn_stop {l : List Int} {b : Bool} (h : rn l b < l.length) : bl (l.getD (rn l b) 0) = !b := by
  induction l with
  | nil => simp at h
  | cons x r ih =>
    rw [rn_cons] at h ⊢
    split at h
    · rename_i hx
      rw [if_pos hx]
      simpa using ih (by simpa using h)
    · rename_i hx
      rw [if_neg hx]
      cases b <;> simpa using hx
theorem get_str {l : List Int} (hb : Byt l) {i : Nat} (h : i < l.length) : ((strOfNums l).get! i).toNat = (l.getD i 0).toNat := by
  have hs : i < (strOfNums l).size := by rw [str_size]; exact h
  have h1 := str_get l hb i h
  rw [getElem?_pos (strOfNums l) i hs] at h1
  have h2 := get_at (strOfNums l) i hs
  rw [Nat.add_zero] at h2
  rw [h2, Option.some.inj h1]
  have := byt_get hb i
  generalize l.getD i 0 = y at this ⊢
  simp
  omega
theorem dec_w (s : ByteArray) (i : Nat) : 1 ≤ (Utf8.decode s i).2 ∧ ∀ k, 0 < k → k < (Utf8.decode s i).2 → i + k < s.size ∧ 128 ≤ (s.get! (i + k)).toNat := by
  simp only [Utf8.decode]
  repeat' split
  all_goals refine ⟨by omega, fun k hk hk2 => ?_⟩
  all_goals simp only [Bool.and_eq_true, decide_eq_true_eq, beq_iff_eq] at *
  all_goals first | omega | skip
  · obtain rfl : k = 1 := by omega
    exact ⟨by omega, by omega⟩
  · rcases (show k = 1 ∨ k = 2 by omega) with rfl | rfl
    · exact ⟨by omega, by omega⟩
    · exact ⟨by omega, by omega⟩
  · rcases (show k = 1 ∨ k = 2 ∨ k = 3 by omega) with rfl | rfl | rfl
    · exact ⟨by omega, by omega⟩
    · exact ⟨by omega, by omega⟩
    · exact ⟨by omega, by omega⟩
theorem bl_hi {x : Int} (h : 128 ≤ x) : bl x = false := by
  unfold bl
  rw [beq_eq_false_iff_ne.2 (by omega), beq_eq_false_iff_ne.2 (by omega)]
  rfl
theorem dec_spec {l : List Int} (hb : Byt l) {p c k : Nat} (hp : p < l.length) (hd : Utf8.decode (strOfNums l) p = (c, k)) : 1 ≤ k ∧ p + k ≤ l.length ∧ bl ((c : Nat) : Int) = bl (l.getD p 0) ∧ (∀ j, p ≤ j → j < p + k → bl (l.getD j 0) = bl (l.getD p 0)) ∧ c ≤ 2147483647 := by
  have hs : p < (strOfNums l).size := by rw [str_size]; exact hp
  have hg := get_str hb hp
  have ha := get_at (strOfNums l) p hs
  rw [Nat.add_zero] at ha
  have hv := byt_get hb p
  have hle := decode_le (strOfNums l) p
  rw [hd] at hle
  by_cases h128 : l.getD p 0 < 128
  · have := decode_ascii (strOfNums l) p hs (by rw [← ha, hg]; omega)
    rw [← ha, hg, hd] at this
    obtain ⟨rfl, rfl⟩ := Prod.mk.inj this
    refine ⟨Nat.le_refl _, by omega, ?_, fun j h1 h2 => ?_, hle⟩
    · congr 1; omega
    · rw [show j = p by omega]
  · have h1 := decode_high (strOfNums l) p hs (by rw [← ha, hg]; omega)
    obtain ⟨h2, h3⟩ := dec_w (strOfNums l) p
    rw [hd] at h1 h2 h3
    simp only at h1 h2 h3
    refine ⟨h2, ?_, ?_, fun j hj1 hj2 => ?_, hle⟩
    · by_cases hk : k = 1
      · omega
      · have := (h3 (k - 1) (by omega) (by omega)).1
        rw [str_size] at this
        omega
    · rw [bl_hi (x := l.getD p 0) (by omega), bl_hi (by omega)]
    · rw [bl_hi (x := l.getD p 0) (by omega)]
      by_cases hj : j = p
      · rw [hj, bl_hi (by omega)]
      · obtain ⟨h4, h5⟩ := h3 (j - p) (by omega) (by omega)
        rw [str_size] at h4
        rw [show p + (j - p) = j by omega] at h4 h5
        rw [get_str hb h4] at h5
        exact bl_hi (by omega)
theorem nx_yes {w : World} {s : ByteArray} {p c k : Nat} {ty : TypeId} (h : p < s.size) (hd : Utf8.decode s p = (c, k)) : (Instr.next (.pointer (some ⟨w.heap.size, 0, none⟩)) true ty).run Tryd.prog (w.iter s p) = .ok (.tuple #[.bool true, .int .i64 ((p : Nat) : Int), .int .i32 ((c : Nat) : Int)]) (w.iter s (p + k)) := by
  have := run_next_any (P := Tryd.prog) w s p ty h
  rw [hd] at this
  exact this
theorem ol_rangeS {w : World} {ρ : Operand → Value} {o : Oper} (x : Operand) (s : ByteArray) (ho : o.op = .range 9 x) (hx : ρ x = .string s) : (execOp ρ o).run Tryd.prog w = .ok (.value (.pointer (some ⟨w.heap.size, 0, none⟩))) (w.iter s 0) := by
  unfold execOp
  rw [ho]
  simp only [hx, Sem.run_bind, run_range_string w 9 s Tryd.underlying9, Result.andThen_ok, Sem.run_pure]
theorem iter_bl (w : World) (s : ByteArray) (p : Nat) : Bl w (w.iter s p) := (Below.refl _ _).alloc (Nat.le_refl _) _
/-- A text that is read: what is left of it, and where that begins. -/
def txC (l : List Int) (p : Nat) : Array Value := #[.string (strOfNums l), .int .i64 ((p : Nat) : Int)]
def RTx (g : Nat) (w : World) (l : List Int) (p : Nat) (v : Value) : Value → World → Prop := fun u w' => u = v ∧ Rw g w' (txC l p) 38 ∧ Touch g w w'
theorem Tb.tou {w w' : World} {g : Nat} (h : Tb w) (ht : Touch g w w') (hg : 0 ≠ g) : Tb w' := let ⟨T, fr, h⟩ := h; ⟨T, fr, (ht.block _ (lt_of_get h) hg).trans h⟩
theorem touch_app {g base : Nat} {w0 w w' : World} (hT : Touch g w0 w) (hb : Below base w w') (hs : w0.heap.size ≤ base) : Touch g w0 w' := ⟨hb.os.trans hT.os, hb.tape.trans hT.tape, hb.output.trans hT.output, Nat.le_trans hT.size hb.size, fun k hk hne => (hb.block k (by omega)).trans (hT.block k hk hne)⟩
theorem Rw.base {g base : Nat} {w w' : World} {cs : Array Value} {T : TypeId} (h : Rw g w cs T) (hb : Below base w w') (hg : g < base) : Rw g w' cs T := (hb.block g hg).trans h
theorem nxW_len (l : List Int) : rn l true + (nxW l).length + (nxR l).length = l.length := by
  have h1 := rn_le l true
  have h2 := rn_le (nx1 l) false
  have h3 : (nx1 l).length = l.length - rn l true := by unfold nx1; rw [List.length_drop]
  unfold nxW nxR
  rw [List.length_take, List.length_drop]
  omega
theorem byt_nx {l : List Int} (h : Byt l) : Byt (nx1 l) ∧ Byt (nxW l) ∧ Byt (nxR l) := ⟨byt_drop h _, byt_take (byt_drop h _) _, byt_drop (byt_drop h _) _⟩
theorem pr_one {n : Nat} (h : 0 < n) (h9 : n < 10) : pr n = [((48 + n : Nat) : Int)] := by
  unfold pr
  rw [if_neg (by omega), dg_pos h, Nat.div_eq_of_lt h9, dg_zero, Nat.mod_eq_of_lt h9]
  rfl
theorem bek_drop : ∀ (j k n : Nat), (bek (j + k) n).drop j = bek k n
  | 0, k, n => by rw [Nat.zero_add, List.drop_zero]
  | j + 1, k, n => by
    rw [show j + 1 + k = (j + k) + 1 by omega, bek_front, List.drop_succ_cons, bek_drop j k n]
theorem bek8 {k n : Nat} (h : k ≤ 8) : (bek 8 n).drop (8 - k) = bek k n := by
  have := bek_drop (8 - k) k n
  rwa [show 8 - k + k = 8 by omega] at this
end Go.Proofs.YtbjjboicfghldabDoor

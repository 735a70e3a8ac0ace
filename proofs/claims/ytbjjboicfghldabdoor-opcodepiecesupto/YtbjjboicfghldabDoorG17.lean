/- The words' functions, told as the walk wants them; small plain facts. -/
import Derived.Test.YtbjjboicfghldabDoorG12
import Derived.Test.YtbjjboicfghldabDoorG13
import Derived.Test.YtbjjboicfghldabDoorG15
import Derived.Test.YtbjjboicfghldabDoorG16
namespace Go.Proofs.YtbjjboicfghldabDoor
open Go.RowKit
open Wo
set_option linter.unusedVariables false
set_option maxRecDepth 100000
def W64 : Nat := 18446744073709551616
theorem wprint {m : Nat} (hm : m < W64) (w : World) : Calls Tryd.prog 38 #[.int .u64 ((m : Nat) : Int)] w fun e w' => ∃ v, e = .returned v ∧ RVl w (.string (strOfNums (pr m))) v w' := by
  unfold W64 at hm
  exact (print_any ((m : Nat) : Int) (by omega) (by omega) w).mono fun e w' ⟨h1, h2⟩ => ⟨_, h1, rfl, h2⟩
theorem wbytes {m : Nat} (hm : m < W64) (w : World) : Calls Tryd.prog 36 #[.int .u64 ((m : Nat) : Int)] w fun e w' => ∃ v, e = .returned v ∧ RSl w (be m) v w' := by
  unfold W64 at hm
  exact (bytes_any ((m : Nat) : Int) (by omega) (by omega) w).mono fun e w' ⟨h1, h2, h3⟩ => ⟨_, h1, ⟨_, _, _, rfl, row_ag h2 (be_len _) (be_bd _) (by have := nb8 (n := m) hm; simp; omega)⟩, h3⟩
theorem wkey {m : Nat} (hm : m < W64) (w : World) : Calls Tryd.prog 26 #[.int .u64 ((m : Nat) : Int)] w fun e w' => ∃ v, e = .returned v ∧ RSl w (bek 8 m) v w' := by
  unfold W64 at hm
  exact (key_any ((m : Nat) : Int) (by omega) (by omega) w).mono fun e w' ⟨h1, h2, h3⟩ => ⟨_, h1, ⟨_, _, _, rfl, row_ag h2 (bek_len _ _) (bek_bd _ _) (by omega)⟩, h3⟩
theorem wread {w : World} {a : Option Addr} {n c : Nat} {b : List Int} (h : Ag w a n c b) (hn : n ≤ 140737488351232) : Calls Tryd.prog 39 #[.slice a n c] w fun e w' => ∃ v, e = .returned v ∧ RVl w (.tuple #[.int .u64 (((rdP b).1 : Nat) : Int), .bool (rdP b).2]) v w' :=
  (read_any a n c b w h hn).mono fun e w' ⟨h1, h2⟩ => ⟨_, h1, rfl, by rw [h2]; exact Bl.refl _⟩
theorem wparse {l : List Int} (hb : Byt l) (hl : l.length ≤ 9223372036854775807) (w : World) : Calls Tryd.prog 23 #[.string (strOfNums l)] w fun e w' => ∃ v, e = .returned v ∧ RVl w (.tuple #[.int .u64 (((ps l).1 : Nat) : Int), .bool (ps l).2]) v w' := by
  have := parse_any (strOfNums l) (by rw [str_size]; unfold maxLen; exact hl) w
  rw [sb_str hb] at this
  exact this.mono fun e w' ⟨h1, h2⟩ => ⟨_, h1, rfl, by rw [h2]; exact Bl.refl _⟩
theorem byt_pr (n : Nat) : Byt (pr n) := digits_bd (pr_digits n)
theorem szo_bd {m : Nat} (hm : m < W64) : 1 ≤ szo m ∧ szo m ≤ 8 := by
  have := nb8 (n := m) hm
  unfold szo
  omega
theorem nf_small {x : Int} {o : Nf} (h : ofP x = some o) : o.bh ≤ 8 ∧ o.tk ≤ 8 ∧ o.gv ≤ 8 ∧ o.gs ≤ 255 ∧ Byt o.wd ∧ o.wd.length ≤ 8 ∧ o.wd ≠ [] := by
  by_cases hp : 32 ≤ x ∧ x < 40
  · rw [of_push hp] at h
    cases h
    exact ⟨by simp; omega, by simp, by simp, by simp, show Byt pushW from byt_lit (by decide), show pushW.length ≤ 8 by decide, show pushW ≠ [] by decide⟩
  · rw [of_not hp] at h
    cases hf : fdP x with
    | none => rw [hf] at h; cases h
    | some r =>
      rw [hf] at h
      cases h
      have hr : r ∈ tbl := List.mem_of_find?_eq_some hf
      have key : ∀ r ∈ tbl, r.bh ≤ 8 ∧ r.tk ≤ 8 ∧ r.gv ≤ 8 ∧ r.gs ≤ 255 ∧ (∀ x ∈ r.wd, 0 ≤ x ∧ x < 256) ∧ r.wd.length ≤ 8 ∧ r.wd ≠ [] := by decide +kernel
      exact key r hr
theorem ag_hd {w : World} {a : Option Addr} {n c : Nat} {x : Int} {r : List Int} (h : Ag w a n c (x :: r)) : 0 ≤ x ∧ x < 256 := h.b x List.mem_cons_self
/-- The bytes of a number, noughts ahead of it or none. -/
def stz : List Int → List Int
  | [] => []
  | x :: r => if x = 0 then stz r else x :: r
theorem vl_cons (x : Int) (r : List Int) : vl (x :: r) = x.toNat * 256 ^ r.length + vl r := by
  revert x
  refine snoc_ind (P := fun r => ∀ x : Int, vl (x :: r) = x.toNat * 256 ^ r.length + vl r) ?_ ?_ r
  · intro x; unfold vl; simp
  · intro r y ih x
    rw [← List.cons_append, vl_snoc, ih x, vl_snoc, List.length_append, List.length_singleton, Nat.pow_succ]
    generalize 256 ^ r.length = p
    rw [Nat.add_mul, Nat.mul_assoc]
    omega
theorem vl_stz : ∀ l : List Int, vl (stz l) = vl l
  | [] => rfl
  | x :: r => by
    unfold stz
    split
    · rename_i h; subst h; rw [vl_stz r, vl_cons]; simp
    · rfl
theorem stz_len : ∀ l : List Int, (stz l).length ≤ l.length
  | [] => Nat.le_refl _
  | x :: r => by
    unfold stz
    split
    · have := stz_len r
      simp
      omega
    · exact Nat.le_refl _
theorem stz_hd : ∀ l : List Int, 0 < (stz l).length → (stz l).getD 0 0 ≠ 0
  | [] => fun h => by simp [stz] at h
  | x :: r => by
    unfold stz
    split
    · exact stz_hd r
    · intro _; simpa
theorem rd_stz {l : List Int} (h : l.length ≤ 8) : rdP (stz l) = (vl l, true) := by
  have h1 := stz_len l
  unfold rdP
  have hn : ¬ (8 < (stz l).length ∨ (0 < (stz l).length ∧ (stz l).getD 0 0 = 0)) := by
    rintro (h2 | ⟨h2, h3⟩)
    · omega
    · exact stz_hd l h2 h3
  rw [if_neg hn, vl_stz]
theorem szP_no {x : Int} {r : List Int} (h : ofP x = none) : szP (x :: r) = 1 := by simp only [szP, h]
theorem szP_lt {x : Int} {r : List Int} {o : Nf} (h : ofP x = some o) (hl : r.length < o.bh) : szP (x :: r) = 1 := by simp only [szP, h]; rw [if_pos hl]
theorem szP_ge {x : Int} {r : List Int} {o : Nf} (h : ofP x = some o) (hl : ¬ r.length < o.bh) : szP (x :: r) = 1 + o.bh := by simp only [szP, h]; rw [if_neg hl]
theorem wr_no {x : Int} {r : List Int} (h : ofP x = none) : wr (x :: r) = byteW ++ 32 :: pr x.toNat := by simp only [wr, h]
theorem wr_lt {x : Int} {r : List Int} {o : Nf} (h : ofP x = some o) (hl : r.length < o.bh) : wr (x :: r) = byteW ++ 32 :: pr x.toNat := by simp only [wr, h]; rw [if_pos hl]
theorem wr_0 {x : Int} {r : List Int} {o : Nf} (h : ofP x = some o) (h0 : o.bh = 0) : wr (x :: r) = o.wd := by simp only [wr, h]; rw [if_neg (by omega), if_pos h0]
theorem wr_p {x : Int} {r : List Int} {o : Nf} (h : ofP x = some o) (hl : ¬ r.length < o.bh) (h0 : o.bh ≠ 0) (hs : o.bh ≠ szo (vl r)) : wr (x :: r) = (pushW ++ pr o.bh) ++ 32 :: pr (vl r) := by simp only [wr, h]; rw [if_neg hl, if_neg h0, if_pos hs]
theorem wr_w {x : Int} {r : List Int} {o : Nf} (h : ofP x = some o) (hl : ¬ r.length < o.bh) (h0 : o.bh ≠ 0) (hs : o.bh = szo (vl r)) : wr (x :: r) = o.wd ++ 32 :: pr (vl r) := by simp only [wr, h]; rw [if_neg hl, if_neg h0, if_neg (by omega)]
theorem ol_max {w : World} {ρ : Operand → Value} {o : Oper} (x y : Operand) (a b : Nat) (ho : o.op = .call { callee := .builtin .max, args := #[x, y], argTypes := #[3, 3] }) (hx : ρ x = .int .i64 ((a : Nat) : Int)) (hy : ρ y = .int .i64 ((b : Nat) : Int)) : (execOp ρ o).run Tryd.prog w = .ok (.value (.int .i64 ((max a b : Nat) : Int))) w := by
  unfold execOp
  rw [ho]
  simp only [resolve, invoke, builtin, Sem.run_bind, Sem.run_pure, Result.andThen_ok, List.map_toArray, List.map_cons, List.map_nil, hx, hy, run_max_int2]
  congr 3
  split <;> omega
theorem cons_of {w : World} {a : Option Addr} {n c : Nat} {b : List Int} (h : Ag w a n c b) (hne : 0 < n) : ∃ x r, b = x :: r ∧ r.length + 1 = n := by
  have hl := h.l
  cases b with
  | nil => simp at hl; omega
  | cons x r => exact ⟨x, r, rfl, by simpa using hl⟩
theorem vl_lt8 {l : List Int} (hb : Byt l) (h : l.length ≤ 8) : vl l < W64 := by
  have h1 := vl_lt l hb
  have h2 : 256 ^ l.length ≤ 256 ^ 8 := Nat.pow_le_pow_right (by decide) h
  have h3 : (256 : Nat) ^ 8 = W64 := rfl
  omega
end Go.Proofs.YtbjjboicfghldabDoor

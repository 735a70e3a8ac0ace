/- A tree without a key. -/
import Derived.Test.YtalhnnjpjaeakaaGreatG06
namespace Go.Proofs.YtalhnnjpjaeakaaGreat
open Go.RowKit
open Tr
set_option linter.unusedVariables false
set_option maxRecDepth 100000
def bra (vs : Nat → Value) : Array Value := #[vs 0, vs 1, vs 2, vs 3, vs 4, vs 5, vs 6, vs 7, vs 8, vs 9, vs 10, vs 11, vs 12, vs 13, vs 14, vs 15]
theorem ol_arr {w : World} {g : Nat} {vs : Nat → Value} {s : Value} {ρ : Operand → Value} {o : Oper} (h : Rw g w (brc vs s) 215) (x : Operand) (ho : o.op = .load 213 x) (hx : ρ x = .pointer (some ⟨g, 0, none⟩)) : (execOp ρ o).run Tryz.prog w = .ok (.value (.agg (bra vs))) w := by
  refine ol_mid 213 x g 0 [vs 0, vs 1, vs 2, vs 3, vs 4, vs 5, vs 6, vs 7, vs 8, vs 9, vs 10, vs 11, vs 12, vs 13, vs 14, vs 15] _ ho hx ?_ Tryz.underlying213 rfl (by kernel_rfl)
  intro j v hj
  have hl : j < 16 := (List.getElem?_eq_some_iff.1 hj).1
  rw [Nat.zero_add, cell_of_row _ _ _ _ _ _ h, brc_get _ _ _ hl]
  match j, hl, hj with
  | 0, _, hj => exact hj
  | 1, _, hj => exact hj
  | 2, _, hj => exact hj
  | 3, _, hj => exact hj
  | 4, _, hj => exact hj
  | 5, _, hj => exact hj
  | 6, _, hj => exact hj
  | 7, _, hj => exact hj
  | 8, _, hj => exact hj
  | 9, _, hj => exact hj
  | 10, _, hj => exact hj
  | 11, _, hj => exact hj
  | 12, _, hj => exact hj
  | 13, _, hj => exact hj
  | 14, _, hj => exact hj
  | 15, _, hj => exact hj
  | n + 16, hl, _ => omega
theorem ix_arr (vs : Nat → Value) (w : World) : ∀ j : Nat, j < 16 → (Instr.index 213 (.agg (bra vs)) (.int .i64 ((j : Nat) : Int))).run Tryz.prog w = .ok (vs j) w
  | 0, _ => by kernel_rfl
  | 1, _ => by kernel_rfl
  | 2, _ => by kernel_rfl
  | 3, _ => by kernel_rfl
  | 4, _ => by kernel_rfl
  | 5, _ => by kernel_rfl
  | 6, _ => by kernel_rfl
  | 7, _ => by kernel_rfl
  | 8, _ => by kernel_rfl
  | 9, _ => by kernel_rfl
  | 10, _ => by kernel_rfl
  | 11, _ => by kernel_rfl
  | 12, _ => by kernel_rfl
  | 13, _ => by kernel_rfl
  | 14, _ => by kernel_rfl
  | 15, _ => by kernel_rfl
  | n + 16, h => by omega
theorem ol_ixa {ρ : Operand → Value} {w : World} {o : Oper} (x y : Operand) (vs : Nat → Value) (j : Nat) (hj : j < 16) (ho : o.op = .index 213 x y) (hx : ρ x = .agg (bra vs)) (hy : ρ y = .int .i64 ((j : Nat) : Int)) : (execOp ρ o).run Tryz.prog w = .ok (.value (vs j)) w := by
  unfold execOp
  rw [ho]
  simp only [hx, hy, Sem.run_bind, ix_arr vs w j hj, Result.andThen_ok, Sem.run_pure]
theorem ol_nen {K : Nat → Prop} {w0 w : World} {t : Tr} {v : Value} (h : TA K w0 t v) {ρ : Operand → Value} {o : Oper} (i : Nat) (r : TypeId) (ho : o.op = .binOp .neq 65 (.tmp i) (.const .nilIface) r) (hx : ρ (.tmp i) = v) (hy : ρ (.const .nilIface) = .nilIface) : (execOp ρ o).run Tryz.prog w = .ok (.value (.bool (!t.isNo))) w := by
  unfold execOp
  rw [ho]
  simp only [hx, hy]
  cases t with
  | no => rw [show v = .nilIface from h]; kernel_rfl
  | leaf p x => obtain ⟨_, _, _, _, _, _, rfl, _⟩ := h; kernel_rfl
  | ext p t => obtain ⟨_, _, _, _, rfl, _⟩ := h; kernel_rfl
  | br k x => obtain ⟨_, _, _, _, rfl, _⟩ := h; kernel_rfl
theorem wrap8 {n : Nat} (h : n < 16) : IntKind.u8.wrap (n : Int) = n := by unfold IntKind.wrap; simp [IntKind.bits, IntKind.signed]; omega
def DS (t : Tr) : Prop := ∀ {K : Nat → Prop} {w : World} {v : Value} {a : Option Addr} {n c : Nat} {q : List Int} {B : Nat}, Ok B t → B ≤ 64 → Nb q → Tr.get t q ≠ [] → TA K w t v → Sk K w a n c q → (∀ b, w.heap.size ≤ b → K b) → MC "pergola/trie.without" v #[.slice a n c] w (TRs K w (del t q))
theorem kids_le (k : Nat → Tr) : ∀ j, kidsN k j ≤ j
  | 0 => Nat.le_refl _
  | j + 1 => by have := kids_le k j; simp only [kidsN]; split <;> omega
theorem nrm_cases (k : Nat → Tr) (x : List Int) : (kidsN k 16 = 0 ∧ nrm k x = leaf [] x) ∨ (kidsN k 16 = 1 ∧ x = [] ∧ nrm k x = und [((lastN k 16 : Nat) : Int)] (k (lastN k 16))) ∨ (kidsN k 16 = 1 ∧ x ≠ [] ∧ nrm k x = br k x) ∨ (2 ≤ kidsN k 16 ∧ nrm k x = br k x) := by
  unfold nrm
  by_cases h0 : kidsN k 16 = 0
  · exact .inl ⟨h0, if_pos h0⟩
  · by_cases h1 : kidsN k 16 = 1
    · by_cases hx : x = []
      · exact .inr (.inl ⟨h1, hx, by rw [if_neg h0, if_pos ⟨h1, hx⟩]⟩)
      · exact .inr (.inr (.inl ⟨h1, hx, by rw [if_neg h0, if_neg (fun h => hx h.2)]⟩))
    · exact .inr (.inr (.inr ⟨by omega, by rw [if_neg h0, if_neg (fun h => h1 h.1)]⟩))
set_option maxHeartbeats 4000000 in
theorem normal_any {K : Nat → Prop} {w : World} {a : Option Addr} {n c B : Nat} {x : List Int} {k : Nat → Tr} {vs : Nat → Value} (hk : TK K w k vs) (hx : Sk K w a n c x) (hn2 : n ≤ 256) (hO : ∀ i, k i = no ∨ (i < 16 ∧ 1 ≤ B ∧ Ok (B - 1) (k i))) (h64 : B ≤ 64) (hK : ∀ b, w.heap.size ≤ b → K b) :
    Calls Tryz.prog 183 #[.agg (brc vs (.slice a n c))] w fun e w' => ∃ u, e = .returned u ∧ TRs K w (nrm k x) u w' := by
  have hB := Bl.refl w
  refine cw_enter Tryz.func183 rfl 45 rfl ?_
  show CW _ _ _ _ _ _ _ [(0, .agg (brc vs (.slice a n c)))] _
  refine cw_seq ?_
  refine cw_region ?_
  refine rw_new 1 (brc vs (.slice a n c)) 215 (fun _ => by kernel_rfl) (fun _ => by kernel_rfl) ?_
  intro w1 g2 hn3
  replace hB := hB.go hn3.below
  replace hx := hx.go hn3.below
  replace hk := hk.go hn3.below
  have hr4 : Rw g2 w1 (brc vs (.slice a n c)) 215 := hn3.row
  refine rw_p 2 (.nilIface) (fun _ => by kernel_rfl) (fun _ => by kernel_rfl) ?_
  refine rw_nil ?_
  refine nw_then ?_
  refine cw_seq ?_
  refine cw_region ?_
  refine rw_p 3 (.int .i64 0) (fun _ => by kernel_rfl) (fun _ => by kernel_rfl) ?_
  refine rw_p 4 (.int .i64 0) (fun _ => by kernel_rfl) (fun _ => by kernel_rfl) ?_
  refine rw_nil ?_
  refine nw_then ?_
  refine cw_seq ?_
  refine cw_seq ?_
  refine cw_region ?_
  refine rw_p 7 (.pointer (some ⟨g2, 0, none⟩)) (fun _ => by kernel_rfl) (fun _ => by kernel_rfl) ?_
  refine rw_p 8 (.agg (bra vs)) (fun _ => by kernel_rfl) (fun _ => ol_arr hr4 _ rfl (by kernel_rfl)) ?_
  refine rw_p 9 (.int .i64 0) (fun _ => by kernel_rfl) (fun _ => by kernel_rfl) ?_
  refine rw_nil ?_
  refine nw_then ?_
  refine cw_block ?_
  refine cw_loop (X := Nat) (fun j => [(9, .int .i64 ((j : Nat) : Int)), (3, .int .i64 ((kidsN k j : Nat) : Int)), (4, .int .i64 ((lastN k j : Nat) : Int)), (8, .agg (bra vs)), (1, .pointer (some ⟨g2, 0, none⟩)), (2, .nilIface)]) (fun j v => v = w1 ∧ j ≤ 16) (fun j => 16 - j) 0 (by exact ⟨fun _ => by kernel_rfl, ⟨fun _ => by kernel_rfl, ⟨fun _ => by kernel_rfl, ⟨fun _ => by kernel_rfl, ⟨fun _ => by kernel_rfl, ⟨fun _ => by kernel_rfl, trivial⟩⟩⟩⟩⟩⟩) ⟨rfl, Nat.zero_le _⟩ ?_
  rintro j v ⟨hv, hj⟩
  rw [hv]
  clear hv v
  by_cases hlt : j < 16
  · skip
    have hkl : kidsN k j ≤ j := kids_le k j
    refine cw_seq ?_
    refine cw_region ?_
    refine rw_p 10 (.bool true) (fun _ => by kernel_rfl) (fun _ => ol_conv (v := .bool (decide (((j : Nat) : Int) < (16 : Int)))) (by kernel_rfl) (congrArg Value.bool (decide_eq_true (by omega)))) ?_
    refine rw_nil ?_
    refine nw_then ?_
    refine cw_seq ?_
    refine cw_cond_t (fun _ => by kernel_rfl) ?_
    refine cw_skip ?_
    refine nw_then ?_
    refine cw_seq ?_
    refine cw_block ?_
    refine cw_seq ?_
    refine cw_region ?_
    refine rw_p 11 (.int .i64 ((j : Nat) : Int)) (fun _ => by kernel_rfl) (fun _ => by kernel_rfl) ?_
    refine rw_p 12 (vs j) (fun _ => by kernel_rfl) (fun _ => ol_ixa _ _ vs j hlt rfl (by kernel_rfl) (by kernel_rfl)) ?_
    refine rw_p 5 (.int .i64 ((j : Nat) : Int)) (fun _ => by kernel_rfl) (fun _ => by kernel_rfl) ?_
    refine rw_p 6 (vs j) (fun _ => by kernel_rfl) (fun _ => by kernel_rfl) ?_
    refine rw_nil ?_
    refine nw_then ?_
    refine cw_seq ?_
    refine cw_region ?_
    refine rw_p 13 (vs j) (fun _ => by kernel_rfl) (fun _ => by kernel_rfl) ?_
    refine rw_p 14 (.bool (!(k j).isNo)) (fun _ => by kernel_rfl) (fun _ => ol_nen (hk j hlt) _ _ rfl (by kernel_rfl) (by kernel_rfl)) ?_
    refine rw_nil ?_
    refine nw_then ?_
    cases hno : (k j).isNo with
    | true =>
      show CW _ _ _ _ _ _ _ [(14, .bool false), (13, vs j), (6, vs j), (5, .int .i64 ((j : Nat) : Int)), (12, vs j), (11, .int .i64 ((j : Nat) : Int)), (10, .bool true), (9, .int .i64 ((j : Nat) : Int)), (3, .int .i64 ((kidsN k j : Nat) : Int)), (4, .int .i64 ((lastN k j : Nat) : Int)), (8, .agg (bra vs)), (1, .pointer (some ⟨g2, 0, none⟩)), (2, .nilIface)] _
      have ek : kidsN k (j + 1) = kidsN k j := by simp [kidsN, hno]
      have el : lastN k (j + 1) = lastN k j := by simp [lastN, hno]
      rw [← ek, ← el]
      refine cw_cond_f (fun _ => by kernel_rfl) ?_
      refine cw_skip ?_
      refine nw_block ?_
      refine nw_then ?_
      refine cw_region ?_
      refine rw_p 18 (.int .i64 ((j + 1 : Nat) : Int)) (fun _ => by kernel_rfl) (fun _ => ol_conv (v := .int .i64 (IntKind.i64.wrap (((j : Nat) : Int) + 1))) (by kernel_rfl) (congrArg (Value.int .i64) (by rw [wrap64 (by omega) (by omega)]; rfl))) ?_
      refine rw_p 9 (.int .i64 ((j + 1 : Nat) : Int)) (fun _ => by kernel_rfl) (fun _ => by kernel_rfl) ?_
      refine rw_nil ?_
      exact nw_round (E := fun j => [(9, .int .i64 ((j : Nat) : Int)), (3, .int .i64 ((kidsN k j : Nat) : Int)), (4, .int .i64 ((lastN k j : Nat) : Int)), (8, .agg (bra vs)), (1, .pointer (some ⟨g2, 0, none⟩)), (2, .nilIface)]) (R := fun j v => v = w1 ∧ j ≤ 16) (μ := fun j => 16 - j) (x := j) (j + 1) (by exact ⟨fun _ => by kernel_rfl, ⟨fun _ => by kernel_rfl, ⟨fun _ => by kernel_rfl, ⟨fun _ => by kernel_rfl, ⟨fun _ => by kernel_rfl, ⟨fun _ => by kernel_rfl, trivial⟩⟩⟩⟩⟩⟩) ⟨rfl, by omega⟩ (by omega)
    | false =>
      show CW _ _ _ _ _ _ _ [(14, .bool true), (13, vs j), (6, vs j), (5, .int .i64 ((j : Nat) : Int)), (12, vs j), (11, .int .i64 ((j : Nat) : Int)), (10, .bool true), (9, .int .i64 ((j : Nat) : Int)), (3, .int .i64 ((kidsN k j : Nat) : Int)), (4, .int .i64 ((lastN k j : Nat) : Int)), (8, .agg (bra vs)), (1, .pointer (some ⟨g2, 0, none⟩)), (2, .nilIface)] _
      have ek : kidsN k (j + 1) = kidsN k j + 1 := by simp [kidsN, hno]
      have el : lastN k (j + 1) = j := by simp [lastN, hno]
      refine cw_cond_t (fun _ => by kernel_rfl) ?_
      refine cw_region ?_
      refine rw_p 15 (.int .i64 ((kidsN k j : Nat) : Int)) (fun _ => by kernel_rfl) (fun _ => by kernel_rfl) ?_
      refine rw_p 16 (.int .i64 ((kidsN k (j + 1) : Nat) : Int)) (fun _ => by kernel_rfl) (fun _ => ol_conv (v := .int .i64 (IntKind.i64.wrap (((kidsN k j : Nat) : Int) + 1))) (by kernel_rfl) (congrArg (Value.int .i64) (by rw [wrap64 (by omega) (by omega), ek]; rfl))) ?_
      refine rw_p 17 (.int .i64 ((lastN k (j + 1) : Nat) : Int)) (fun _ => by kernel_rfl) (fun _ => ol_conv (v := .int .i64 ((j : Nat) : Int)) (by kernel_rfl) (by rw [el])) ?_
      refine rw_p 3 (.int .i64 ((kidsN k (j + 1) : Nat) : Int)) (fun _ => by kernel_rfl) (fun _ => by kernel_rfl) ?_
      refine rw_p 4 (.int .i64 ((lastN k (j + 1) : Nat) : Int)) (fun _ => by kernel_rfl) (fun _ => by kernel_rfl) ?_
      refine rw_nil ?_
      refine nw_block ?_
      refine nw_then ?_
      refine cw_region ?_
      refine rw_p 18 (.int .i64 ((j + 1 : Nat) : Int)) (fun _ => by kernel_rfl) (fun _ => ol_conv (v := .int .i64 (IntKind.i64.wrap (((j : Nat) : Int) + 1))) (by kernel_rfl) (congrArg (Value.int .i64) (by rw [wrap64 (by omega) (by omega)]; rfl))) ?_
      refine rw_p 9 (.int .i64 ((j + 1 : Nat) : Int)) (fun _ => by kernel_rfl) (fun _ => by kernel_rfl) ?_
      refine rw_nil ?_
      exact nw_round (E := fun j => [(9, .int .i64 ((j : Nat) : Int)), (3, .int .i64 ((kidsN k j : Nat) : Int)), (4, .int .i64 ((lastN k j : Nat) : Int)), (8, .agg (bra vs)), (1, .pointer (some ⟨g2, 0, none⟩)), (2, .nilIface)]) (R := fun j v => v = w1 ∧ j ≤ 16) (μ := fun j => 16 - j) (x := j) (j + 1) (by exact ⟨fun _ => by kernel_rfl, ⟨fun _ => by kernel_rfl, ⟨fun _ => by kernel_rfl, ⟨fun _ => by kernel_rfl, ⟨fun _ => by kernel_rfl, ⟨fun _ => by kernel_rfl, trivial⟩⟩⟩⟩⟩⟩) ⟨rfl, by omega⟩ (by omega)
  obtain rfl : j = 16 := by omega
  refine cw_seq ?_
  refine cw_region ?_
  refine rw_p 10 (.bool false) (fun _ => by kernel_rfl) (fun _ => ol_conv (v := .bool (decide (((16 : Nat) : Int) < (16 : Int)))) (by kernel_rfl) (congrArg Value.bool (rfl))) ?_
  refine rw_nil ?_
  refine nw_then ?_
  refine cw_seq ?_
  refine cw_cond_f (fun _ => by kernel_rfl) ?_
  refine cw_exit ?_
  refine nw_exit_then ?_
  refine nw_exit_then ?_
  refine nw_exit_here ?_
  refine nw_then ?_
  refine cw_seq ?_
  refine cw_block ?_
  refine cw_seq ?_
  rcases nrm_cases k x with ⟨h0, en⟩ | ⟨h1, hx0, en⟩ | ⟨h1, hx0, en⟩ | ⟨h1, en⟩
  · skip
    have lx := hx.len
    refine cw_region ?_
    refine rw_p 20 (.int .i64 ((kidsN k 16 : Nat) : Int)) (fun _ => by kernel_rfl) (fun _ => by kernel_rfl) ?_
    refine rw_p 21 (.bool true) (fun _ => by kernel_rfl) (fun _ => ol_conv (v := .bool (((kidsN k 16 : Nat) : Int) == (0 : Int))) (by kernel_rfl) (congrArg Value.bool (beq_iff_eq.2 (by omega)))) ?_
    refine rw_p 19 (.bool true) (fun _ => by kernel_rfl) (fun _ => by kernel_rfl) ?_
    refine rw_nil ?_
    refine nw_then ?_
    refine cw_cond_t (fun _ => by kernel_rfl) ?_
    refine cw_seq ?_
    refine cw_region ?_
    refine rw_p 22 (.pointer (some ⟨g2, 16, none⟩)) (fun _ => by kernel_rfl) (fun _ => by kernel_rfl) ?_
    refine rw_p 23 (.slice a n c) (fun _ => by kernel_rfl) (fun _ => ol_cell 27 _ ⟨g2, 16, none⟩ _ _ rfl (by kernel_rfl) (by rw [cell_of_row _ _ _ _ _ _ hr4]; rfl) Tryz.underlying27 rfl) ?_
    refine rw_p 24 (.agg #[.slice none 0 0, .slice a n c]) (fun _ => by kernel_rfl) (fun _ => by kernel_rfl) ?_
    refine rw_p 25 (.iface 98 (.agg #[.slice none 0 0, .slice a n c])) (fun _ => by kernel_rfl) (fun _ => by kernel_rfl) ?_
    refine rw_p 2 (.iface 98 (.agg #[.slice none 0 0, .slice a n c])) (fun _ => by kernel_rfl) (fun _ => by kernel_rfl) ?_
    refine rw_nil ?_
    refine nw_then ?_
    refine cw_ret ?_
    refine nw_ret_block ?_
    refine nw_ret_then ?_
    exact nw_ret_body (.iface 98 (.agg #[.slice none 0 0, .slice a n c])) (fun _ => by kernel_rfl) ⟨_, rfl, (by rw [en]; exact ⟨_, _, _, _, _, _, rfl, Sk.nil _ _, hx, hn2⟩), hB⟩
  · skip
    have lx := hx.len
    obtain ⟨hl16, hlne, _⟩ := kids1 h1
    obtain ⟨L, hL⟩ : ∃ L, lastN k 16 = L := ⟨_, rfl⟩
    rw [hL] at hl16 hlne en ⊢
    obtain ⟨TL, xL, eL⟩ := (hk L hl16).iface hlne
    refine cw_region ?_
    refine rw_p 20 (.int .i64 ((kidsN k 16 : Nat) : Int)) (fun _ => by kernel_rfl) (fun _ => by kernel_rfl) ?_
    refine rw_p 21 (.bool false) (fun _ => by kernel_rfl) (fun _ => ol_conv (v := .bool (((kidsN k 16 : Nat) : Int) == (0 : Int))) (by kernel_rfl) (congrArg Value.bool (beq_eq_false_iff_ne.2 (by omega)))) ?_
    refine rw_p 19 (.bool false) (fun _ => by kernel_rfl) (fun _ => by kernel_rfl) ?_
    refine rw_nil ?_
    refine nw_then ?_
    refine cw_cond_f (fun _ => by kernel_rfl) ?_
    refine cw_seq ?_
    refine cw_region ?_
    refine rw_p 27 (.int .i64 ((kidsN k 16 : Nat) : Int)) (fun _ => by kernel_rfl) (fun _ => by kernel_rfl) ?_
    refine rw_p 28 (.bool true) (fun _ => by kernel_rfl) (fun _ => ol_conv (v := .bool (((kidsN k 16 : Nat) : Int) == (1 : Int))) (by kernel_rfl) (congrArg Value.bool (beq_iff_eq.2 (by omega)))) ?_
    refine rw_p 29 (.bool true) (fun _ => by kernel_rfl) (fun _ => by kernel_rfl) ?_
    refine rw_p 30 (.pointer (some ⟨g2, 16, none⟩)) (fun _ => by kernel_rfl) (fun _ => by kernel_rfl) ?_
    refine rw_p 31 (.slice a n c) (fun _ => by kernel_rfl) (fun _ => ol_cell 27 _ ⟨g2, 16, none⟩ _ _ rfl (by kernel_rfl) (by rw [cell_of_row _ _ _ _ _ _ hr4]; rfl) Tryz.underlying27 rfl) ?_
    refine rw_p 32 (.int .i64 n) (fun _ => by kernel_rfl) (fun _ => by kernel_rfl) ?_
    refine rw_p 33 (.bool true) (fun _ => by kernel_rfl) (fun _ => ol_conv (v := .bool ((n : Int) == (0 : Int))) (by kernel_rfl) (congrArg Value.bool (beq_iff_eq.2 (by rw [hx0, List.length_nil] at lx; omega)))) ?_
    refine rw_p 34 (.bool true) (fun _ => by kernel_rfl) (fun _ => by kernel_rfl) ?_
    refine rw_p 26 (.bool true) (fun _ => by kernel_rfl) (fun _ => by kernel_rfl) ?_
    refine rw_nil ?_
    refine nw_then ?_
    refine cw_cond_t (fun _ => by kernel_rfl) ?_
    refine cw_seq ?_
    have hB0 := hB.size
    have hOL : Ok (B - 1) (k L) := by rcases hO L with h | ⟨_, _, h⟩; exact absurd h hlne; exact h
    refine cw_region ?_
    refine rw_p 35 (.int .i64 ((L : Nat) : Int)) (fun _ => by kernel_rfl) (fun _ => by kernel_rfl) ?_
    refine rw_p 36 (.pointer (some ⟨g2, 0, none⟩)) (fun _ => by kernel_rfl) (fun _ => by kernel_rfl) ?_
    refine rw_p 37 (.pointer (some ⟨g2, 0 + L * 1, none⟩)) (fun _ => by kernel_rfl) (fun _ => ol_indexK (kd := .i64) 213 _ _ g2 0 L 16 1 65 rfl (by kernel_rfl) (by kernel_rfl) hl16 (by omega) Tryz.underlying213 (by kernel_rfl)) ?_
    refine rw_p 38 (.iface TL xL) (fun _ => by kernel_rfl) (fun _ => ol_cell 65 _ ⟨g2, 0 + L * 1, none⟩ _ _ rfl (by kernel_rfl) (by rw [Nat.zero_add, Nat.mul_one, cell_of_row _ _ _ _ _ _ hr4, brc_get _ _ _ hl16, eL]) Tryz.underlying65 rfl) ?_
    refine rw_p 39 (.int .i64 ((L : Nat) : Int)) (fun _ => by kernel_rfl) (fun _ => by kernel_rfl) ?_
    refine rw_p 40 (.int .u8 ((L : Nat) : Int)) (fun _ => by kernel_rfl) (fun _ => ol_conv (v := .int .u8 (IntKind.u8.wrap ((L : Nat) : Int))) (by kernel_rfl) (congrArg (Value.int .u8) (wrap8 hl16))) ?_
    refine rw_newS 41 #[.int .u8 ((L : Nat) : Int)] 5 1 (fun _ => by kernel_rfl) (fun _ => by kernel_rfl) ?_
    intro w5 g6 hn7
    have hzhn7 := hB.size
    replace hB := hB.go hn7.below
    replace hx := hx.go hn7.below
    replace hk := hk.go hn7.below
    replace hr4 := hr4.go hn7.below
    have hs1 : Sk K w5 (some ⟨g6, 0, none⟩) 1 1 [((L : Nat) : Int)] := one_sk (by omega) hn7 (fun b hb => hK b (by have := hB0; omega))
    obtain ⟨T12, x13, f14, he15, hi10, hc11⟩ := (us_all (k L) hOL (eL ▸ hk L hl16) hs1 (by simp) (by omega) (fun b hb => hK b (Nat.le_trans hB.size hb)))
    refine rw_call 42 f14 (#[x13] ++ #[.slice (some ⟨g6, 0, none⟩) 1 1]) (fun _ => by kernel_rfl) (fun _ => hi10 _ _ _ _ _ _ _ rfl (by kernel_rfl) (by kernel_rfl)) (R := TRs K (w5) (und [((L : Nat) : Int)] (k L))) ?_ ?_
    · exact hc11
    rintro vR u8 ⟨ht, hb9⟩
    replace hB := hB.go hb9
    replace hx := hx.go hb9
    replace hk := hk.go hb9
    replace hr4 := hr4.go hb9
    replace hs1 := hs1.go hb9
    refine rw_p 2 (vR) (fun _ => by kernel_rfl) (fun _ => by kernel_rfl) ?_
    refine rw_nil ?_
    refine nw_then ?_
    refine cw_ret ?_
    refine nw_ret_block ?_
    refine nw_ret_then ?_
    exact nw_ret_body vR (fun _ => by kernel_rfl) ⟨_, rfl, (by rw [en]; exact ht), hB⟩
  · skip
    have lx := hx.len
    refine cw_region ?_
    refine rw_p 20 (.int .i64 ((kidsN k 16 : Nat) : Int)) (fun _ => by kernel_rfl) (fun _ => by kernel_rfl) ?_
    refine rw_p 21 (.bool false) (fun _ => by kernel_rfl) (fun _ => ol_conv (v := .bool (((kidsN k 16 : Nat) : Int) == (0 : Int))) (by kernel_rfl) (congrArg Value.bool (beq_eq_false_iff_ne.2 (by omega)))) ?_
    refine rw_p 19 (.bool false) (fun _ => by kernel_rfl) (fun _ => by kernel_rfl) ?_
    refine rw_nil ?_
    refine nw_then ?_
    refine cw_cond_f (fun _ => by kernel_rfl) ?_
    refine cw_seq ?_
    refine cw_region ?_
    refine rw_p 27 (.int .i64 ((kidsN k 16 : Nat) : Int)) (fun _ => by kernel_rfl) (fun _ => by kernel_rfl) ?_
    refine rw_p 28 (.bool true) (fun _ => by kernel_rfl) (fun _ => ol_conv (v := .bool (((kidsN k 16 : Nat) : Int) == (1 : Int))) (by kernel_rfl) (congrArg Value.bool (beq_iff_eq.2 (by omega)))) ?_
    refine rw_p 29 (.bool true) (fun _ => by kernel_rfl) (fun _ => by kernel_rfl) ?_
    refine rw_p 30 (.pointer (some ⟨g2, 16, none⟩)) (fun _ => by kernel_rfl) (fun _ => by kernel_rfl) ?_
    refine rw_p 31 (.slice a n c) (fun _ => by kernel_rfl) (fun _ => ol_cell 27 _ ⟨g2, 16, none⟩ _ _ rfl (by kernel_rfl) (by rw [cell_of_row _ _ _ _ _ _ hr4]; rfl) Tryz.underlying27 rfl) ?_
    refine rw_p 32 (.int .i64 n) (fun _ => by kernel_rfl) (fun _ => by kernel_rfl) ?_
    refine rw_p 33 (.bool false) (fun _ => by kernel_rfl) (fun _ => ol_conv (v := .bool ((n : Int) == (0 : Int))) (by kernel_rfl) (congrArg Value.bool (beq_eq_false_iff_ne.2 (by have := List.length_pos_iff.2 hx0; omega)))) ?_
    refine rw_p 34 (.bool false) (fun _ => by kernel_rfl) (fun _ => by kernel_rfl) ?_
    refine rw_p 26 (.bool false) (fun _ => by kernel_rfl) (fun _ => by kernel_rfl) ?_
    refine rw_nil ?_
    refine nw_then ?_
    refine cw_cond_f (fun _ => by kernel_rfl) ?_
    refine cw_skip ?_
    refine nw_block ?_
    refine nw_then ?_
    refine cw_seq ?_
    refine cw_region ?_
    refine rw_p 43 (.agg (brc vs (.slice a n c))) (fun _ => by kernel_rfl) (fun _ => ol_row 215 _ _ _ _ _ _ rfl (by kernel_rfl) hr4 Tryz.underlying215 rfl (by kernel_rfl)) ?_
    refine rw_p 44 (.iface 215 (.agg (brc vs (.slice a n c)))) (fun _ => by kernel_rfl) (fun _ => by kernel_rfl) ?_
    refine rw_p 2 (.iface 215 (.agg (brc vs (.slice a n c)))) (fun _ => by kernel_rfl) (fun _ => by kernel_rfl) ?_
    refine rw_nil ?_
    refine nw_then ?_
    refine cw_ret ?_
    exact nw_ret_body (.iface 215 (.agg (brc vs (.slice a n c)))) (fun _ => by kernel_rfl) ⟨_, rfl, (by rw [en]; exact ⟨vs, _, _, _, rfl, hk, hx, hn2⟩), hB⟩
  · skip
    have lx := hx.len
    refine cw_region ?_
    refine rw_p 20 (.int .i64 ((kidsN k 16 : Nat) : Int)) (fun _ => by kernel_rfl) (fun _ => by kernel_rfl) ?_
    refine rw_p 21 (.bool false) (fun _ => by kernel_rfl) (fun _ => ol_conv (v := .bool (((kidsN k 16 : Nat) : Int) == (0 : Int))) (by kernel_rfl) (congrArg Value.bool (beq_eq_false_iff_ne.2 (by omega)))) ?_
    refine rw_p 19 (.bool false) (fun _ => by kernel_rfl) (fun _ => by kernel_rfl) ?_
    refine rw_nil ?_
    refine nw_then ?_
    refine cw_cond_f (fun _ => by kernel_rfl) ?_
    refine cw_seq ?_
    refine cw_region ?_
    refine rw_p 27 (.int .i64 ((kidsN k 16 : Nat) : Int)) (fun _ => by kernel_rfl) (fun _ => by kernel_rfl) ?_
    refine rw_p 28 (.bool false) (fun _ => by kernel_rfl) (fun _ => ol_conv (v := .bool (((kidsN k 16 : Nat) : Int) == (1 : Int))) (by kernel_rfl) (congrArg Value.bool (beq_eq_false_iff_ne.2 (by omega)))) ?_
    refine rw_p 29 (.bool false) (fun _ => by kernel_rfl) (fun _ => by kernel_rfl) ?_
    refine rw_off 30 (fun _ => by kernel_rfl) ?_
    refine rw_off 31 (fun _ => by kernel_rfl) ?_
    refine rw_off 32 (fun _ => by kernel_rfl) ?_
    refine rw_off 33 (fun _ => by kernel_rfl) ?_
    refine rw_p 34 (.bool false) (fun _ => by kernel_rfl) (fun _ => by kernel_rfl) ?_
    refine rw_p 26 (.bool false) (fun _ => by kernel_rfl) (fun _ => by kernel_rfl) ?_
    refine rw_nil ?_
    refine nw_then ?_
    refine cw_cond_f (fun _ => by kernel_rfl) ?_
    refine cw_skip ?_
    refine nw_block ?_
    refine nw_then ?_
    refine cw_seq ?_
    refine cw_region ?_
    refine rw_p 43 (.agg (brc vs (.slice a n c))) (fun _ => by kernel_rfl) (fun _ => ol_row 215 _ _ _ _ _ _ rfl (by kernel_rfl) hr4 Tryz.underlying215 rfl (by kernel_rfl)) ?_
    refine rw_p 44 (.iface 215 (.agg (brc vs (.slice a n c)))) (fun _ => by kernel_rfl) (fun _ => by kernel_rfl) ?_
    refine rw_p 2 (.iface 215 (.agg (brc vs (.slice a n c)))) (fun _ => by kernel_rfl) (fun _ => by kernel_rfl) ?_
    refine rw_nil ?_
    refine nw_then ?_
    refine cw_ret ?_
    exact nw_ret_body (.iface 215 (.agg (brc vs (.slice a n c)))) (fun _ => by kernel_rfl) ⟨_, rfl, (by rw [en]; exact ⟨vs, _, _, _, rfl, hk, hx, hn2⟩), hB⟩
end Go.Proofs.YtalhnnjpjaeakaaGreat
/- Trees without a key. -/
namespace Go.Proofs.YtalhnnjpjaeakaaGreat
open Go.RowKit
open Tr
set_option linter.unusedVariables false
set_option maxRecDepth 100000
set_option maxHeartbeats 1000000 in
theorem lwithout_any {K : Nat → Prop} {w : World} {a a' : Option Addr} {n c n' c' : Nat} {p x q : List Int} {aq : Option Addr} {nq cq : Nat} :
    Calls Tryz.prog 173 #[.agg #[.slice a n c, .slice a' n' c'], .slice aq nq cq] w fun e w' => ∃ u, e = .returned u ∧ TRs K w (del (leaf p x) q) u w' := by
  have hB := Bl.refl w
  refine cw_enter Tryz.func173 rfl 5 rfl ?_
  show CW _ _ _ _ _ _ _ [(0, .agg #[.slice a n c, .slice a' n' c']), (1, .slice aq nq cq)] _
  refine cw_seq ?_
  refine cw_region ?_
  refine rw_new 2 (#[.slice a n c, .slice a' n' c']) 98 (fun _ => by kernel_rfl) (fun _ => by kernel_rfl) ?_
  intro w1 g2 hn3
  replace hB := hB.go hn3.below
  have hr4 : Rw g2 w1 (#[.slice a n c, .slice a' n' c']) 98 := hn3.row
  refine rw_p 4 (.nilIface) (fun _ => by kernel_rfl) (fun _ => by kernel_rfl) ?_
  refine rw_nil ?_
  refine nw_then ?_
  refine cw_seq ?_
  refine cw_region ?_
  refine rw_p 4 (.nilIface) (fun _ => by kernel_rfl) (fun _ => by kernel_rfl) ?_
  refine rw_nil ?_
  refine nw_then ?_
  refine cw_ret ?_
  exact nw_ret_body (.nilIface) (fun _ => by kernel_rfl) ⟨_, rfl, rfl, hB⟩
set_option maxHeartbeats 4000000 in
theorem ewithout_any {K : Nat → Prop} {w : World} {a : Option Addr} {n c B : Nat} {p : List Int} {t : Tr} {Tu : TypeId} {xu : Value} (hp : Sk K w a n c p) (ht0 : TA K w t (.iface Tu xu)) (hOt : Ok B t) (hF : DS t) {aq : Option Addr} {nq cq : Nat} {q : List Int} (hq : Sk K w aq nq cq q) (hK : ∀ b, w.heap.size ≤ b → K b) (hnb : Nb q) (hl1 : p.length ≤ 64) (h64 : B ≤ 64) (hpre : q.take p.length = p) (hget : Tr.get t (q.drop p.length) ≠ []) (hOD : Ok B (del t (q.drop p.length))) :
    Calls Tryz.prog 193 #[.agg #[.slice a n c, .iface Tu xu], .slice aq nq cq] w fun e w' => ∃ u, e = .returned u ∧ TRs K w (del (ext p t) q) u w' := by
  have hB := Bl.refl w
  have lp := hp.len
  have lq := hq.len
  have hpl : p.length ≤ q.length := by have := congrArg List.length hpre; rw [List.length_take] at this; omega
  refine cw_enter Tryz.func193 rfl 18 rfl ?_
  show CW _ _ _ _ _ _ _ [(0, .agg #[.slice a n c, .iface Tu xu]), (1, .slice aq nq cq)] _
  refine cw_seq ?_
  refine cw_region ?_
  refine rw_new 2 (#[.slice a n c, .iface Tu xu]) 220 (fun _ => by kernel_rfl) (fun _ => by kernel_rfl) ?_
  intro w1 g2 hn3
  replace hB := hB.go hn3.below
  replace hp := hp.go hn3.below
  replace hq := hq.go hn3.below
  replace ht0 := ht0.go hn3.below
  have hr4 : Rw g2 w1 (#[.slice a n c, .iface Tu xu]) 220 := hn3.row
  refine rw_p 4 (.nilIface) (fun _ => by kernel_rfl) (fun _ => by kernel_rfl) ?_
  refine rw_nil ?_
  refine nw_then ?_
  refine cw_seq ?_
  refine cw_draw (fun v => Rw g2 v (#[.slice a n c, .iface Tu xu]) 220) (by kernel_rfl) (hr4.drew) ?_
  replace hB := hB.drew
  replace hp := hp.drew
  replace hq := hq.drew
  replace ht0 := ht0.drew
  replace hr4 := hr4.drew
  refine dw_take 0 5 (.pointer (some ⟨g2, 1, none⟩)) rfl (by kernel_rfl) (fun _ _ _ h => h) (fun _ => by kernel_rfl) (fun v hv _ => by kernel_rfl) hr4 ?_
  refine dw_take 1 6 (.iface Tu xu) rfl (by kernel_rfl) (fun _ _ _ h => h) (fun _ => by kernel_rfl) (fun v hv _ => ol_cell 65 _ ⟨g2, 1, none⟩ _ _ rfl (by kernel_rfl) (by rw [cell_of_row _ _ _ _ _ _ hv]; rfl) Tryz.underlying65 rfl) hr4 ?_
  refine dw_take 2 7 (.slice aq nq cq) rfl (by kernel_rfl) (fun _ _ _ h => h) (fun _ => by kernel_rfl) (fun v hv _ => by kernel_rfl) hr4 ?_
  refine dw_take 3 8 (.pointer (some ⟨g2, 0, none⟩)) rfl (by kernel_rfl) (fun _ _ _ h => h) (fun _ => by kernel_rfl) (fun v hv _ => by kernel_rfl) hr4 ?_
  refine dw_take 4 9 (.slice a n c) rfl (by kernel_rfl) (fun _ _ _ h => h) (fun _ => by kernel_rfl) (fun v hv _ => ol_cell 27 _ ⟨g2, 0, none⟩ _ _ rfl (by kernel_rfl) (by rw [cell_of_row _ _ _ _ _ _ hv]; rfl) Tryz.underlying27 rfl) hr4 ?_
  refine dw_take 5 10 (.int .i64 n) rfl (by kernel_rfl) (fun _ _ _ h => h) (fun _ => by kernel_rfl) (fun v hv _ => by kernel_rfl) hr4 ?_
  obtain ⟨a5, n6, c7, hr8, hs9⟩ := hq.cutFrom n (by have := hq.len; omega)
  refine dw_take 6 11 (.slice a5 n6 c7) rfl (by kernel_rfl) (fun _ _ _ h => h) (fun _ => by kernel_rfl) (fun v hv => (fun _ => hr8 _ _ _ _ _ _ rfl (by kernel_rfl) (by kernel_rfl) rfl)) hr4 ?_
  refine dw_take 7 12 (.iface Tu xu) rfl (by kernel_rfl) (fun _ _ _ h => h) (fun _ => by kernel_rfl) (fun v hv => (fun _ => by kernel_rfl)) hr4 ?_
  refine dw_take 8 13 (.iface Tu xu) rfl (by kernel_rfl) (fun _ _ _ h => h) (fun _ => by kernel_rfl) (fun v hv _ => by kernel_rfl) hr4 ?_
  refine dw_take 10 15 (.pointer (some ⟨g2, 0, none⟩)) rfl (by kernel_rfl) (fun _ _ _ h => h) (fun _ => by kernel_rfl) (fun v hv _ => by kernel_rfl) hr4 ?_
  refine dw_take 11 16 (.slice a n c) rfl (by kernel_rfl) (fun _ _ _ h => h) (fun _ => by kernel_rfl) (fun v hv _ => ol_cell 27 _ ⟨g2, 0, none⟩ _ _ rfl (by kernel_rfl) (by rw [cell_of_row _ _ _ _ _ _ hv]; rfl) Tryz.underlying27 rfl) hr4 ?_
  refine dw_ready [9] (by kernel_rfl) (by simp) ?_
  obtain ⟨T14, x15, f16, he17, hi12, hc13⟩ := (hF hOt (by omega) (hnb.drop _) hget ht0 (show Sk K (w1.drew) _ _ _ (q.drop p.length) from lp ▸ hs9) (fun b hb => hK b (Nat.le_trans hB.size hb)))
  refine ar_call 9 14 f16 (#[x15] ++ #[.slice a5 n6 c7]) rfl (fun _ => by kernel_rfl) (fun _ => hi12 _ _ _ _ _ _ _ rfl (by kernel_rfl) (by kernel_rfl)) (R := TRs K (w1.drew) (del t (q.drop p.length))) ?_ (fun u w' h => hr4.go h.2) ?_ ar_nil
  · exact hc13
  rintro vD u10 ⟨htD, hb11⟩
  replace hB := hB.go hb11
  replace hp := hp.go hb11
  replace hq := hq.go hb11
  replace ht0 := ht0.go hb11
  replace hr4 := hr4.go hb11
  replace hs9 := hs9.go hb11
  refine dw_ready [12] (by kernel_rfl) (by simp) ?_
  obtain ⟨T22, x23, f24, he25, hi20, hc21⟩ := (us_all _ hOD htD hp (by omega) (by omega) (fun b hb => hK b (Nat.le_trans hB.size hb)))
  refine ar_call 12 17 f24 (#[x23] ++ #[.slice a n c]) rfl (fun _ => by kernel_rfl) (fun _ => hi20 _ _ _ _ _ _ _ rfl (by kernel_rfl) (by kernel_rfl)) (R := TRs K (u10) (und p (del t (q.drop p.length)))) ?_ (fun u w' h => hr4.go h.2) ?_ ar_nil
  · exact hc21
  rintro vR u18 ⟨ht, hb19⟩
  replace hB := hB.go hb19
  replace hp := hp.go hb19
  replace hq := hq.go hb19
  replace ht0 := ht0.go hb19
  replace hr4 := hr4.go hb19
  replace hs9 := hs9.go hb19
  replace htD := htD.go hb19
  refine dw_take 13 4 (vR) rfl (by kernel_rfl) (fun _ _ _ h => h) (fun _ => by kernel_rfl) (fun v hv _ => by kernel_rfl) hr4 ?_
  refine dw_done (by kernel_rfl) ?_
  refine nw_then ?_
  refine cw_ret ?_
  exact nw_ret_body vR (fun _ => by kernel_rfl) ⟨_, rfl, ht, hB⟩
set_option maxHeartbeats 1000000 in
theorem bwithout_nil {K : Nat → Prop} {w : World} {a : Option Addr} {n c B : Nat} {y : List Int} {k : Nat → Tr} {vs : Nat → Value} (hk : TK K w k vs) (hy : Sk K w a n c y) (hn2 : n ≤ 256) (hK : ∀ b, w.heap.size ≤ b → K b) (h64 : B ≤ 64) {aq : Option Addr} {nq cq : Nat} {q : List Int} (hq : Sk K w aq nq cq q) (hnq : nq = 0) (hON : ∀ j, k j = no ∨ (j < 16 ∧ 1 ≤ B ∧ Ok (B - 1) (k j))) :
    Calls Tryz.prog 185 #[.agg (brc vs (.slice a n c)), .slice aq nq cq] w fun e w' => ∃ u, e = .returned u ∧ TRs K w (del (br k y) q) u w' := by
  have hB := Bl.refl w
  refine cw_enter Tryz.func185 rfl 27 rfl ?_
  show CW _ _ _ _ _ _ _ [(0, .agg (brc vs (.slice a n c))), (1, .slice aq nq cq)] _
  refine cw_seq ?_
  refine cw_region ?_
  refine rw_new 2 (brc vs (.slice a n c)) 215 (fun _ => by kernel_rfl) (fun _ => by kernel_rfl) ?_
  intro w1 g2 hn3
  replace hB := hB.go hn3.below
  replace hy := hy.go hn3.below
  replace hk := hk.go hn3.below
  replace hq := hq.go hn3.below
  have hr4 : Rw g2 w1 (brc vs (.slice a n c)) 215 := hn3.row
  refine rw_p 4 (.nilIface) (fun _ => by kernel_rfl) (fun _ => by kernel_rfl) ?_
  refine rw_nil ?_
  have hgs := hn3.hg
  refine nw_then ?_
  refine cw_seq ?_
  refine cw_seq ?_
  refine cw_region ?_
  refine rw_p 6 (.slice aq nq cq) (fun _ => by kernel_rfl) (fun _ => by kernel_rfl) ?_
  refine rw_p 7 (.int .i64 nq) (fun _ => by kernel_rfl) (fun _ => by kernel_rfl) ?_
  refine rw_p 8 (.bool true) (fun _ => by kernel_rfl) (fun _ => ol_conv (v := .bool ((nq : Int) == (0 : Int))) (by kernel_rfl) (congrArg Value.bool (beq_iff_eq.2 (by omega)))) ?_
  refine rw_nil ?_
  refine nw_then ?_
  refine cw_cond_t (fun _ => by kernel_rfl) ?_
  refine cw_region ?_
  refine rw_p 9 (.pointer (some ⟨g2, 16, none⟩)) (fun _ => by kernel_rfl) (fun _ => by kernel_rfl) ?_
  refine rw_set1 g2 16 (.slice none 0 0) (fun _ => by kernel_rfl) (fun _ => ol_setC 27 _ _ g2 16 _ 215 _ hr4 rfl (by kernel_rfl) (by kernel_rfl) (by show 16 < 17; omega) rfl rfl (by kernel_rfl)) ?_
  intro w5 hp6
  have hbs : Bs w1 w5 g2 := Bs.of hr4 (hk.noint _ _ _) hp6
  replace hy := hy.bs hbs
  replace hk := hk.bs hbs
  replace hq := hq.bs hbs
  replace hB := hB.set hp6 (by omega)
  replace hr4 : Rw g2 w5 (brc vs (.slice none 0 0)) 215 := hr4.set hp6 (rfl)
  refine rw_nil ?_
  refine nw_then ?_
  refine cw_seq ?_
  refine cw_region ?_
  refine rw_p 25 (.agg (brc vs (.slice none 0 0))) (fun _ => by kernel_rfl) (fun _ => ol_row 215 _ _ _ _ _ _ rfl (by kernel_rfl) hr4 Tryz.underlying215 rfl (by kernel_rfl)) ?_
  refine rw_call 26 183 #[.agg (brc vs (.slice none 0 0))] (fun _ => by kernel_rfl) (fun _ => by kernel_rfl) (R := TRs K (w5) (nrm k [])) ((normal_any hk (Sk.nil K _) (by omega) hON h64 (fun b hb => hK b (Nat.le_trans hB.size hb)))) ?_
  rintro vN u7 ⟨htN, hb8⟩
  replace hB := hB.go hb8
  replace hy := hy.go hb8
  replace hk := hk.go hb8
  replace hq := hq.go hb8
  replace hr4 := hr4.go hb8
  refine rw_p 4 (vN) (fun _ => by kernel_rfl) (fun _ => by kernel_rfl) ?_
  refine rw_nil ?_
  refine nw_then ?_
  refine cw_ret ?_
  exact nw_ret_body vN (fun _ => by kernel_rfl) ⟨_, rfl, (by have e : q = [] := List.eq_nil_of_length_eq_zero (by have := hq.len; omega); subst e; exact htN), hB⟩
set_option maxHeartbeats 1000000 in
theorem bwithout_cons {K : Nat → Prop} {w : World} {a : Option Addr} {n c B : Nat} {y : List Int} {k : Nat → Tr} {vs : Nat → Value} (hk : TK K w k vs) (hy : Sk K w a n c y) (hn2 : n ≤ 256) (hK : ∀ b, w.heap.size ≤ b → K b) (h64 : B ≤ 64) {gq oq nq cq i : Nat} {r : List Int} (hi : i < 16) (hq : Sk K w (some ⟨gq, oq, none⟩) nq cq (((i : Nat) : Int) :: r)) (hnq : 0 < nq) (hc0 : w.cell? ⟨gq, oq + 0 * 1, none⟩ = some (.int .u8 ((i : Nat) : Int))) (hF : DS (k i)) (hOi : Ok (B - 1) (k i)) (hget : Tr.get (k i) r ≠ []) (hnb : Nb r) {T0 : TypeId} {v0 : Value} (e0 : vs i = .iface T0 v0) (hti : TA K w (k i) (.iface T0 v0)) (hON : ∀ j, upd k i (del (k i) r) j = no ∨ (j < 16 ∧ 1 ≤ B ∧ Ok (B - 1) (upd k i (del (k i) r) j))) :
    Calls Tryz.prog 185 #[.agg (brc vs (.slice a n c)), .slice (some ⟨gq, oq, none⟩) nq cq] w fun e w' => ∃ u, e = .returned u ∧ TRs K w (nrm (upd k i (del (k i) r)) y) u w' := by
  have hB := Bl.refl w
  refine cw_enter Tryz.func185 rfl 27 rfl ?_
  show CW _ _ _ _ _ _ _ [(0, .agg (brc vs (.slice a n c))), (1, .slice (some ⟨gq, oq, none⟩) nq cq)] _
  refine cw_seq ?_
  refine cw_region ?_
  refine rw_new 2 (brc vs (.slice a n c)) 215 (fun _ => by kernel_rfl) (fun _ => by kernel_rfl) ?_
  intro w1 g2 hn3
  replace hB := hB.go hn3.below
  replace hy := hy.go hn3.below
  replace hk := hk.go hn3.below
  replace hq := hq.go hn3.below
  replace hti := hti.go hn3.below
  have hr4 : Rw g2 w1 (brc vs (.slice a n c)) 215 := hn3.row
  refine rw_p 4 (.nilIface) (fun _ => by kernel_rfl) (fun _ => by kernel_rfl) ?_
  refine rw_nil ?_
  have hgs := hn3.hg
  refine nw_then ?_
  refine cw_seq ?_
  refine cw_seq ?_
  refine cw_region ?_
  refine rw_p 6 (.slice (some ⟨gq, oq, none⟩) nq cq) (fun _ => by kernel_rfl) (fun _ => by kernel_rfl) ?_
  refine rw_p 7 (.int .i64 nq) (fun _ => by kernel_rfl) (fun _ => by kernel_rfl) ?_
  refine rw_p 8 (.bool false) (fun _ => by kernel_rfl) (fun _ => ol_conv (v := .bool ((nq : Int) == (0 : Int))) (by kernel_rfl) (congrArg Value.bool (beq_eq_false_iff_ne.2 (by omega)))) ?_
  refine rw_nil ?_
  refine nw_then ?_
  refine cw_cond_f (fun _ => by kernel_rfl) ?_
  refine cw_seq ?_
  refine cw_region ?_
  refine rw_p 10 (.slice (some ⟨gq, oq, none⟩) nq cq) (fun _ => by kernel_rfl) (fun _ => by kernel_rfl) ?_
  refine rw_p 11 (.pointer (some ⟨gq, oq + 0 * 1, none⟩)) (fun _ => by kernel_rfl) (fun _ => ol_index 27 _ _ gq oq 0 nq cq 1 5 rfl (by kernel_rfl) (by kernel_rfl) (by omega) Tryz.underlying27 (by kernel_rfl)) ?_
  refine rw_p 12 (.int .u8 ((i : Nat) : Int)) (fun _ => by kernel_rfl) (fun _ => ol_cell 5 _ ⟨gq, oq + 0 * 1, none⟩ _ _ rfl (by kernel_rfl) ((hB.cell (p := ⟨gq, oq + 0 * 1, none⟩) (block_lt_of_cell hc0)).trans hc0) Tryz.underlying5 rfl) ?_
  refine rw_p 5 (.int .u8 ((i : Nat) : Int)) (fun _ => by kernel_rfl) (fun _ => by kernel_rfl) ?_
  refine rw_nil ?_
  refine nw_then ?_
  refine cw_draw (fun _ => True) (by kernel_rfl) (trivial) ?_
  replace hB := hB.drew
  replace hy := hy.drew
  replace hk := hk.drew
  replace hq := hq.drew
  replace hti := hti.drew
  replace hr4 := hr4.drew
  refine dw_take 0 13 (.int .u8 ((i : Nat) : Int)) rfl (by kernel_rfl) (fun _ _ _ h => h) (fun _ => by kernel_rfl) (fun v hv _ => by kernel_rfl) trivial ?_
  refine dw_take 1 14 (.int .u8 ((i : Nat) : Int)) rfl (by kernel_rfl) (fun _ _ _ h => h) (fun _ => by kernel_rfl) (fun v hv _ => by kernel_rfl) trivial ?_
  refine dw_take 2 15 (.pointer (some ⟨g2, 0, none⟩)) rfl (by kernel_rfl) (fun _ _ _ h => h) (fun _ => by kernel_rfl) (fun v hv _ => by kernel_rfl) trivial ?_
  refine dw_take 3 16 (.pointer (some ⟨g2, 0 + i * 1, none⟩)) rfl (by kernel_rfl) (fun _ _ _ h => h) (fun _ => by kernel_rfl) (fun v hv _ => ol_indexK (kd := .u8) 213 _ _ g2 0 i 16 1 65 rfl (by kernel_rfl) (by kernel_rfl) hi (by omega) Tryz.underlying213 (by kernel_rfl)) trivial ?_
  refine dw_take 5 18 (.slice (some ⟨gq, oq, none⟩) nq cq) rfl (by kernel_rfl) (fun _ _ _ h => h) (fun _ => by kernel_rfl) (fun v hv _ => by kernel_rfl) trivial ?_
  obtain ⟨a5, n6, c7, hr8, hs9⟩ := hq.cutFrom 1 (by have := hq.len; omega)
  refine dw_take 6 19 (.slice a5 n6 c7) rfl (by kernel_rfl) (fun _ _ _ h => h) (fun _ => by kernel_rfl) (fun v hv => (fun _ => hr8 _ _ _ _ _ _ rfl (by kernel_rfl) (by kernel_rfl) rfl)) trivial ?_
  refine dw_take 10 23 (.pointer (some ⟨g2, 0, none⟩)) rfl (by kernel_rfl) (fun _ _ _ h => h) (fun _ => by kernel_rfl) (fun v hv _ => by kernel_rfl) trivial ?_
  refine dw_ready [4] (by kernel_rfl) (by simp) ?_
  refine ar_v 4 17 (.iface T0 v0) rfl (fun _ => by kernel_rfl) (fun _ => ol_cell 65 _ ⟨g2, 0 + i * 1, none⟩ _ _ rfl (by kernel_rfl) (by rw [Nat.zero_add, Nat.mul_one, cell_of_row _ _ _ _ _ _ hr4, brc_get _ _ _ hi, e0]) Tryz.underlying65 rfl) trivial ?_ ar_nil
  refine dw_take 7 20 (.iface T0 v0) rfl (by kernel_rfl) (fun _ _ _ h => h) (fun _ => by kernel_rfl) (fun v hv => (fun _ => by kernel_rfl)) trivial ?_
  refine dw_take 8 21 (.iface T0 v0) rfl (by kernel_rfl) (fun _ _ _ h => h) (fun _ => by kernel_rfl) (fun v hv _ => by kernel_rfl) trivial ?_
  refine dw_ready [9] (by kernel_rfl) (by simp) ?_
  obtain ⟨T14, x15, f16, he17, hi12, hc13⟩ := (hF hOi (by omega) hnb hget hti hs9 (fun b hb => hK b (Nat.le_trans hB.size hb)))
  refine ar_call 9 22 f16 (#[x15] ++ #[.slice a5 n6 c7]) rfl (fun _ => by kernel_rfl) (fun _ => hi12 _ _ _ _ _ _ _ rfl (by kernel_rfl) (by kernel_rfl)) (R := TRs K (w1.drew) (del (k i) r)) ?_ (fun u w' h => trivial) ?_ ar_nil
  · exact hc13
  rintro vR u10 ⟨ht, hb11⟩
  replace hB := hB.go hb11
  replace hy := hy.go hb11
  replace hk := hk.go hb11
  replace hq := hq.go hb11
  replace hti := hti.go hb11
  replace hr4 := hr4.go hb11
  replace hs9 := hs9.go hb11
  refine dw_take 11 24 (.pointer (some ⟨g2, 0 + i * 1, none⟩)) rfl (by kernel_rfl) (fun _ _ _ h => h) (fun _ => by kernel_rfl) (fun v hv _ => ol_indexK (kd := .u8) 213 _ _ g2 0 i 16 1 65 rfl (by kernel_rfl) (by kernel_rfl) hi (by omega) Tryz.underlying213 (by kernel_rfl)) trivial ?_
  refine dw_ready [12] (by kernel_rfl) (by simp) ?_
  refine ar_set1 12 g2 (0 + i * 1) vR rfl (fun _ => by kernel_rfl) (fun _ => ol_setC 65 _ _ g2 (0 + i * 1) _ 215 _ hr4 rfl (by kernel_rfl) (by kernel_rfl) (by show 0 + i * 1 < 17; omega) ht.cells ht.one (by kernel_rfl)) (fun w' h => trivial) ?_ ar_nil
  intro w18 hp19
  have hbs : Bs u10 w18 g2 := Bs.of hr4 (hk.noint _ _ _) hp19
  replace hy := hy.bs hbs
  replace hk := hk.bs hbs
  replace hq := hq.bs hbs
  replace hti := hti.bs hbs
  replace hs9 := hs9.bs hbs
  replace ht := ht.bs hbs
  replace hB := hB.set hp19 (by omega)
  replace hr4 : Rw g2 w18 (brc (updv vs i vR) (.slice a n c)) 215 := hr4.set hp19 (by rw [Nat.zero_add, Nat.mul_one]; exact brc_set _ _ _ _ hi)
  refine dw_done (by kernel_rfl) ?_
  refine nw_then ?_
  refine cw_seq ?_
  refine cw_region ?_
  refine rw_p 25 (.agg (brc (updv vs i vR) (.slice a n c))) (fun _ => by kernel_rfl) (fun _ => ol_row 215 _ _ _ _ _ _ rfl (by kernel_rfl) hr4 Tryz.underlying215 rfl (by kernel_rfl)) ?_
  refine rw_call 26 183 #[.agg (brc (updv vs i vR) (.slice a n c))] (fun _ => by kernel_rfl) (fun _ => by kernel_rfl) (R := TRs K (w18) (nrm (upd k i (del (k i) r)) y)) ((normal_any (hk.put ht) hy hn2 hON h64 (fun b hb => hK b (Nat.le_trans hB.size hb)))) ?_
  rintro vN u20 ⟨htN, hb21⟩
  replace hB := hB.go hb21
  replace hy := hy.go hb21
  replace hk := hk.go hb21
  replace hq := hq.go hb21
  replace hti := hti.go hb21
  replace hr4 := hr4.go hb21
  replace hs9 := hs9.go hb21
  replace ht := ht.go hb21
  refine rw_p 4 (vN) (fun _ => by kernel_rfl) (fun _ => by kernel_rfl) ?_
  refine rw_nil ?_
  refine nw_then ?_
  refine cw_ret ?_
  exact nw_ret_body vN (fun _ => by kernel_rfl) ⟨_, rfl, htN, hB⟩
theorem ds_all (t : Tr) : DS t := by
  induction t with
  | no => intro K w v a n c q B hO; exact hO.elim
  | leaf p x0 =>
    intro K w v a n c q B hO h64 hnb hg ht hq hK
    obtain ⟨a1, n1, c1, a2, n2, c2, rfl, h1, h2, h3⟩ := ht
    exact ⟨_, _, _, rfl, iv_without_l _, lwithout_any⟩
  | ext p t ih =>
    intro K w v a n c q B hO h64 hnb hg ht hq hK
    obtain ⟨a1, n1, c1, u, rfl, h1, h2⟩ := ht
    obtain ⟨o1, o2, o3, o4, o5⟩ := hO
    obtain ⟨Tu, xu, rfl⟩ := h2.iface (fun e => by rw [e] at o4; simp [isBr] at o4)
    simp only [Tr.get] at hg
    have hpre : q.take p.length = p := by
      by_cases h : q.take p.length = p
      · exact h
      · rw [if_neg h] at hg; exact absurd rfl hg
    rw [if_pos hpre] at hg
    exact ⟨_, _, _, rfl, iv_without_e _, ewithout_any h1 h2 o5 ih hq hK hnb (by omega) (by omega) hpre hg ((del_ok t _ _ o5 (hnb.drop _) hg).2 o4)⟩
  | br k y ih =>
    intro K w v a n c q B hO h64 hnb hg ht hq hK
    obtain ⟨vs, a1, n1, c1, rfl, h1, h2, h3⟩ := ht
    refine ⟨_, _, _, rfl, iv_without_b _, ?_⟩
    cases q with
    | nil => exact bwithout_nil h1 h2 h3 hK h64 hq hq.len.symm hO.1
    | cons i r =>
      obtain ⟨g, o, rfl, hc, hn⟩ := hq.head
      have hi := hnb.head
      obtain ⟨j, rfl⟩ := Int.eq_ofNat_of_zero_le hi.1
      have hg : Tr.get (k j) r ≠ [] := hg
      rcases hO.1 j with h | ⟨h16, hB1, h⟩
      · rw [h] at hg; exact absurd rfl hg
      · obtain ⟨T0, v0, e0⟩ := (h1 j h16).iface h.ne
        refine bwithout_cons h1 h2 h3 hK h64 h16 hq hn hc (ih j) h hg hnb.tail e0 (e0 ▸ h1 j h16) ?_
        intro m
        show upd k j (del (k j) r) m = no ∨ (m < 16 ∧ 1 ≤ B ∧ Ok (B - 1) (upd k j (del (k j) r) m))
        by_cases e : m = j
        · rw [e, upd_same]
          rcases (del_ok (k j) _ r h hnb.tail hg).1 with h | h
          · exact .inl h
          · exact .inr ⟨h16, hB1, h⟩
        · rw [upd_other k _ e]
          exact hO.1 m
end Go.Proofs.YtalhnnjpjaeakaaGreat
/- The trie's own functions. -/
namespace Go.Proofs.YtalhnnjpjaeakaaGreat
open Go.RowKit
open Tr
set_option linter.unusedVariables false
set_option maxRecDepth 100000
/-- A trie in memory: its block, its tree. -/
structure Tri (K : Nat → Prop) (w : World) (g : Nat) (t : Tr) : Prop where
  ex : ∃ v, Rw g w #[v] 67 ∧ TA K w t v
  ok : t = no ∨ Ok 64 t
theorem Tri.go {K : Nat → Prop} {w w' : World} {g : Nat} {t : Tr} (h : Tri K w g t) (hb : Below w.heap.size w w') : Tri K w' g t := by
  obtain ⟨⟨v, h1, h2⟩, h3⟩ := h
  exact ⟨⟨v, h1.go hb, h2.go hb⟩, h3⟩
theorem Tri.drew {K : Nat → Prop} {w : World} {g : Nat} {t : Tr} (h : Tri K w g t) : Tri K w.drew g t := h.go (Below.refl _ _).drew
theorem Tri.noint {K : Nat → Prop} {w : World} {g : Nat} {t : Tr} (h : Tri K w g t) (o : Nat) (kd : IntKind) (z : Int) : w.cell? ⟨g, o, none⟩ ≠ some (.int kd z) := by
  obtain ⟨⟨v, h1, h2⟩, h3⟩ := h
  rw [cell_of_row _ _ _ _ _ _ h1]
  cases o with
  | zero => intro e; cases e; exact h2.noint _ _ rfl
  | succ o => simp
theorem one_noint {K : Nat → Prop} {w : World} {t : Tr} {v : Value} (h : TA K w t v) : NoInt #[v] := by
  intro j u hj kd z
  cases j with
  | zero => cases hj; exact h.noint kd z
  | succ j => simp at hj
theorem Sk.touch {K K' : Nat → Prop} {w w' : World} {g : Nat} {t : Tr} {a : Option Addr} {n c : Nat} {bs : List Int} (h : Sk K w a n c bs) (ht : Touch g w w') (hT : Tri K' w g t) : Sk K w' a n c bs := by
  refine ⟨⟨?_, h.ag.nil, h.ag.l, h.ag.b⟩, h.k⟩
  rcases h.ag.i with h1 | ⟨gb, off, h1, h2, h3, h4, h5, h7⟩
  · exact .inl h1
  · refine .inr ⟨gb, off, h1, h2, h3, h4, h5, fun j hj => ?_⟩
    have hne : gb ≠ g := fun e => by
      subst e
      exact hT.noint _ _ _ (h7 j hj)
    rw [← h7 j hj]
    exact World.cell?_of_block (ht.block gb (block_lt_of_cell (h7 j hj)) hne)
theorem Cut_sk {w : World} {base : Nat} {a : Option Addr} {n : Nat} {bs : List Int} {K : Nat → Prop} (h : Ni.Cut w base a n bs) (hK : ∀ b, base ≤ b → K b) : Sk K w a n n bs :=
  ⟨h.ag, fun x hx hn => by obtain ⟨g, off, cur, e, hg, _⟩ := h.own hn; rw [e] at hx; cases hx; exact hK _ hg⟩
theorem nib_nb {k : List Int} (h : ∀ x ∈ k, 0 ≤ x ∧ x < 256) : Nb (Ni.nib k) := fun i hi => by have := Ni.nib_bd k h i hi; omega
theorem TA.len {K : Nat → Prop} {w : World} : ∀ {t : Tr} {v : Value}, TA K w t v → ∀ q, Nb q → (Tr.get t q).length ≤ 256 := by
  intro t
  induction t with
  | no => intro v h q _; simp [Tr.get]
  | leaf p x =>
    rintro v ⟨_, _, _, _, n', _, _, _, h2, h3⟩ q _
    simp only [Tr.get]
    split
    · rw [h2.len]; exact h3
    · simp
  | ext p t ih =>
    rintro v ⟨_, _, _, u, _, _, h2⟩ q hq
    simp only [Tr.get]
    split
    · exact ih h2 _ (hq.drop _)
    · simp
  | br k x ih =>
    rintro v ⟨vs, _, _, _, _, h1, h2, h3⟩ q hq
    cases q with
    | nil => simp only [Tr.get]; rw [h2.len]; exact h3
    | cons i r =>
      have := hq.head
      simp only [Tr.get]
      exact ih _ (h1 i.toNat (by omega)) _ hq.tail
theorem len_pos (l : List Int) : decide (((l.length : Nat) : Int) > (0 : Int)) = decide (l ≠ []) := by
  cases l with
  | nil => rfl
  | cons i r => simp
set_option maxHeartbeats 1000000 in
theorem iskey_t {w : World} {a : Option Addr} {n c : Nat} (hn : n ≤ 32) :
    Calls Tryz.prog 28 #[.slice a n c] w fun e w' => ∃ u, e = .returned u ∧ (fun u w' => u = .bool true ∧ Bl w w') u w' := by
  have hB := Bl.refl w
  refine cw_enter Tryz.func28 rfl 6 rfl ?_
  show CW _ _ _ _ _ _ _ [(0, .slice a n c)] _
  refine cw_seq ?_
  refine cw_region ?_
  refine rw_p 2 (.bool false) (fun _ => by kernel_rfl) (fun _ => by kernel_rfl) ?_
  refine rw_nil ?_
  refine nw_then ?_
  refine cw_seq ?_
  refine cw_region ?_
  refine rw_p 3 (.slice a n c) (fun _ => by kernel_rfl) (fun _ => by kernel_rfl) ?_
  refine rw_p 4 (.int .i64 n) (fun _ => by kernel_rfl) (fun _ => by kernel_rfl) ?_
  refine rw_p 5 (.bool true) (fun _ => by kernel_rfl) (fun _ => ol_conv (v := .bool (decide ((n : Int) ≤ (32 : Int)))) (by kernel_rfl) (congrArg Value.bool (decide_eq_true (by omega)))) ?_
  refine rw_p 2 (.bool true) (fun _ => by kernel_rfl) (fun _ => by kernel_rfl) ?_
  refine rw_nil ?_
  refine nw_then ?_
  refine cw_ret ?_
  exact nw_ret_body (.bool true) (fun _ => by kernel_rfl) ⟨_, rfl, rfl, hB⟩
set_option maxHeartbeats 1000000 in
theorem iskey_f {w : World} {a : Option Addr} {n c : Nat} (hn : 32 < n) :
    Calls Tryz.prog 28 #[.slice a n c] w fun e w' => ∃ u, e = .returned u ∧ (fun u w' => u = .bool false ∧ Bl w w') u w' := by
  have hB := Bl.refl w
  refine cw_enter Tryz.func28 rfl 6 rfl ?_
  show CW _ _ _ _ _ _ _ [(0, .slice a n c)] _
  refine cw_seq ?_
  refine cw_region ?_
  refine rw_p 2 (.bool false) (fun _ => by kernel_rfl) (fun _ => by kernel_rfl) ?_
  refine rw_nil ?_
  refine nw_then ?_
  refine cw_seq ?_
  refine cw_region ?_
  refine rw_p 3 (.slice a n c) (fun _ => by kernel_rfl) (fun _ => by kernel_rfl) ?_
  refine rw_p 4 (.int .i64 n) (fun _ => by kernel_rfl) (fun _ => by kernel_rfl) ?_
  refine rw_p 5 (.bool false) (fun _ => by kernel_rfl) (fun _ => ol_conv (v := .bool (decide ((n : Int) ≤ (32 : Int)))) (by kernel_rfl) (congrArg Value.bool (decide_eq_false (by omega)))) ?_
  refine rw_p 2 (.bool false) (fun _ => by kernel_rfl) (fun _ => by kernel_rfl) ?_
  refine rw_nil ?_
  refine nw_then ?_
  refine cw_ret ?_
  exact nw_ret_body (.bool false) (fun _ => by kernel_rfl) ⟨_, rfl, rfl, hB⟩
set_option maxHeartbeats 1000000 in
theorem isvalue_t {w : World} {a : Option Addr} {n c : Nat} (h0 : 0 < n) (hn : n ≤ 256) :
    Calls Tryz.prog 29 #[.slice a n c] w fun e w' => ∃ u, e = .returned u ∧ (fun u w' => u = .bool true ∧ Bl w w') u w' := by
  have hB := Bl.refl w
  refine cw_enter Tryz.func29 rfl 11 rfl ?_
  show CW _ _ _ _ _ _ _ [(0, .slice a n c)] _
  refine cw_seq ?_
  refine cw_region ?_
  refine rw_p 2 (.bool false) (fun _ => by kernel_rfl) (fun _ => by kernel_rfl) ?_
  refine rw_nil ?_
  refine nw_then ?_
  refine cw_seq ?_
  refine cw_region ?_
  refine rw_p 3 (.slice a n c) (fun _ => by kernel_rfl) (fun _ => by kernel_rfl) ?_
  refine rw_p 4 (.int .i64 n) (fun _ => by kernel_rfl) (fun _ => by kernel_rfl) ?_
  refine rw_p 5 (.bool true) (fun _ => by kernel_rfl) (fun _ => ol_conv (v := .bool (decide ((n : Int) > (0 : Int)))) (by kernel_rfl) (congrArg Value.bool (decide_eq_true (by omega)))) ?_
  refine rw_p 6 (.bool true) (fun _ => by kernel_rfl) (fun _ => by kernel_rfl) ?_
  refine rw_p 7 (.slice a n c) (fun _ => by kernel_rfl) (fun _ => by kernel_rfl) ?_
  refine rw_p 8 (.int .i64 n) (fun _ => by kernel_rfl) (fun _ => by kernel_rfl) ?_
  refine rw_p 9 (.bool true) (fun _ => by kernel_rfl) (fun _ => ol_conv (v := .bool (decide ((n : Int) ≤ (256 : Int)))) (by kernel_rfl) (congrArg Value.bool (decide_eq_true (by omega)))) ?_
  refine rw_p 10 (.bool true) (fun _ => by kernel_rfl) (fun _ => by kernel_rfl) ?_
  refine rw_p 2 (.bool true) (fun _ => by kernel_rfl) (fun _ => by kernel_rfl) ?_
  refine rw_nil ?_
  refine nw_then ?_
  refine cw_ret ?_
  exact nw_ret_body (.bool true) (fun _ => by kernel_rfl) ⟨_, rfl, rfl, hB⟩
set_option maxHeartbeats 1000000 in
theorem isvalue_0 {w : World} {a : Option Addr} {n c : Nat} (h0 : n = 0) :
    Calls Tryz.prog 29 #[.slice a n c] w fun e w' => ∃ u, e = .returned u ∧ (fun u w' => u = .bool false ∧ Bl w w') u w' := by
  have hB := Bl.refl w
  refine cw_enter Tryz.func29 rfl 11 rfl ?_
  show CW _ _ _ _ _ _ _ [(0, .slice a n c)] _
  refine cw_seq ?_
  refine cw_region ?_
  refine rw_p 2 (.bool false) (fun _ => by kernel_rfl) (fun _ => by kernel_rfl) ?_
  refine rw_nil ?_
  refine nw_then ?_
  refine cw_seq ?_
  refine cw_region ?_
  refine rw_p 3 (.slice a n c) (fun _ => by kernel_rfl) (fun _ => by kernel_rfl) ?_
  refine rw_p 4 (.int .i64 n) (fun _ => by kernel_rfl) (fun _ => by kernel_rfl) ?_
  refine rw_p 5 (.bool false) (fun _ => by kernel_rfl) (fun _ => ol_conv (v := .bool (decide ((n : Int) > (0 : Int)))) (by kernel_rfl) (congrArg Value.bool (decide_eq_false (by omega)))) ?_
  refine rw_p 6 (.bool false) (fun _ => by kernel_rfl) (fun _ => by kernel_rfl) ?_
  refine rw_off 7 (fun _ => by kernel_rfl) ?_
  refine rw_off 8 (fun _ => by kernel_rfl) ?_
  refine rw_off 9 (fun _ => by kernel_rfl) ?_
  refine rw_p 10 (.bool false) (fun _ => by kernel_rfl) (fun _ => by kernel_rfl) ?_
  refine rw_p 2 (.bool false) (fun _ => by kernel_rfl) (fun _ => by kernel_rfl) ?_
  refine rw_nil ?_
  refine nw_then ?_
  refine cw_ret ?_
  exact nw_ret_body (.bool false) (fun _ => by kernel_rfl) ⟨_, rfl, rfl, hB⟩
set_option maxHeartbeats 1000000 in
theorem isvalue_f {w : World} {a : Option Addr} {n c : Nat} (h0 : 256 < n) :
    Calls Tryz.prog 29 #[.slice a n c] w fun e w' => ∃ u, e = .returned u ∧ (fun u w' => u = .bool false ∧ Bl w w') u w' := by
  have hB := Bl.refl w
  refine cw_enter Tryz.func29 rfl 11 rfl ?_
  show CW _ _ _ _ _ _ _ [(0, .slice a n c)] _
  refine cw_seq ?_
  refine cw_region ?_
  refine rw_p 2 (.bool false) (fun _ => by kernel_rfl) (fun _ => by kernel_rfl) ?_
  refine rw_nil ?_
  refine nw_then ?_
  refine cw_seq ?_
  refine cw_region ?_
  refine rw_p 3 (.slice a n c) (fun _ => by kernel_rfl) (fun _ => by kernel_rfl) ?_
  refine rw_p 4 (.int .i64 n) (fun _ => by kernel_rfl) (fun _ => by kernel_rfl) ?_
  refine rw_p 5 (.bool true) (fun _ => by kernel_rfl) (fun _ => ol_conv (v := .bool (decide ((n : Int) > (0 : Int)))) (by kernel_rfl) (congrArg Value.bool (decide_eq_true (by omega)))) ?_
  refine rw_p 6 (.bool true) (fun _ => by kernel_rfl) (fun _ => by kernel_rfl) ?_
  refine rw_p 7 (.slice a n c) (fun _ => by kernel_rfl) (fun _ => by kernel_rfl) ?_
  refine rw_p 8 (.int .i64 n) (fun _ => by kernel_rfl) (fun _ => by kernel_rfl) ?_
  refine rw_p 9 (.bool false) (fun _ => by kernel_rfl) (fun _ => ol_conv (v := .bool (decide ((n : Int) ≤ (256 : Int)))) (by kernel_rfl) (congrArg Value.bool (decide_eq_false (by omega)))) ?_
  refine rw_p 10 (.bool false) (fun _ => by kernel_rfl) (fun _ => by kernel_rfl) ?_
  refine rw_p 2 (.bool false) (fun _ => by kernel_rfl) (fun _ => by kernel_rfl) ?_
  refine rw_nil ?_
  refine nw_then ?_
  refine cw_ret ?_
  exact nw_ret_body (.bool false) (fun _ => by kernel_rfl) ⟨_, rfl, rfl, hB⟩
set_option maxHeartbeats 1000000 in
theorem new_any {K : Nat → Prop} {w : World} :
    Calls Tryz.prog 15 #[] w fun e w' => ∃ u, e = .returned u ∧ (fun u w' => (∃ g, u = .pointer (some ⟨g, 0, none⟩) ∧ w.heap.size ≤ g ∧ Tri K w' g no) ∧ Bl w w') u w' := by
  have hB := Bl.refl w
  refine cw_enter Tryz.func15 rfl 3 rfl ?_
  show CW _ _ _ _ _ _ _ [] _
  refine cw_seq ?_
  refine cw_region ?_
  refine rw_p 0 (.pointer none) (fun _ => by kernel_rfl) (fun _ => by kernel_rfl) ?_
  refine rw_nil ?_
  refine nw_then ?_
  refine cw_seq ?_
  refine cw_region ?_
  refine rw_p 1 (.agg #[.nilIface]) (fun _ => by kernel_rfl) (fun _ => by kernel_rfl) ?_
  refine rw_new 2 #[.nilIface] 67 (fun _ => by kernel_rfl) (fun _ => by kernel_rfl) ?_
  intro w1 g2 hn3
  replace hB := hB.go hn3.below
  have hr4 : Rw g2 w1 #[.nilIface] 67 := hn3.row
  refine rw_p 0 (.pointer (some ⟨g2, 0, none⟩)) (fun _ => by kernel_rfl) (fun _ => by kernel_rfl) ?_
  refine rw_nil ?_
  refine nw_then ?_
  refine cw_ret ?_
  exact nw_ret_body (.pointer (some ⟨g2, 0, none⟩)) (fun _ => by kernel_rfl) ⟨_, rfl, ⟨_, rfl, (by rw [hn3.hg]; exact Nat.le_refl _), ⟨⟨_, hr4, rfl⟩, .inl rfl⟩⟩, hB⟩
set_option maxHeartbeats 1000000 in
theorem get_ok {K : Nat → Prop} {w : World} {g : Nat} {v : Value} {t : Tr} {a : Option Addr} {n c : Nat} {k : List Int} (hr : Rw g w #[v] 67) (ht : TA K w t v) (hok : t = no ∨ Ok 64 t) (hk : Sk K w a n c k) (hn : n ≤ 32) (hK : ∀ b, w.heap.size ≤ b → K b) :
    Calls Tryz.prog 22 #[.pointer (some ⟨g, 0, none⟩), .slice a n c] w fun e w' => ∃ u, e = .returned u ∧ (fun u w' => (∃ a2 n2 c2 b, u = .tuple #[.slice a2 n2 c2, .bool b, .int .i64 0] ∧ b = decide (Tr.get t (Ni.nib k) ≠ []) ∧ Sk (fun b => w.heap.size ≤ b) w' a2 n2 c2 (Tr.get t (Ni.nib k))) ∧ Bl w w') u w' := by
  have hB := Bl.refl w
  have hnb : Nb (Ni.nib k) := nib_nb hk.ag.b
  have hkl : (Ni.nib k).length = 2 * n := by rw [Ni.nib_len, hk.len]
  have hFS : t = no ∨ ∃ B, Ok B t ∧ FS t := by
    rcases hok with h | h
    · exact .inl h
    · exact .inr ⟨_, h, fs_all t⟩
  refine cw_enter Tryz.func22 rfl 23 rfl ?_
  show CW _ _ _ _ _ _ _ [(0, .pointer (some ⟨g, 0, none⟩)), (1, .slice a n c)] _
  refine cw_seq ?_
  refine cw_region ?_
  refine rw_p 4 (.slice none 0 0) (fun _ => by kernel_rfl) (fun _ => by kernel_rfl) ?_
  refine rw_p 5 (.bool false) (fun _ => by kernel_rfl) (fun _ => by kernel_rfl) ?_
  refine rw_p 6 (.int .i64 0) (fun _ => by kernel_rfl) (fun _ => by kernel_rfl) ?_
  refine rw_nil ?_
  refine nw_then ?_
  refine cw_seq ?_
  refine cw_seq ?_
  refine cw_region ?_
  refine rw_p 8 (.slice a n c) (fun _ => by kernel_rfl) (fun _ => by kernel_rfl) ?_
  refine rw_call 9 28 #[.slice a n c] (fun _ => by kernel_rfl) (fun _ => by kernel_rfl) (R := fun u w' => u = .bool true ∧ Bl (w) w') ((iskey_t hn)) ?_
  rintro _ u1 ⟨rfl, hb2⟩
  replace hB := hB.go hb2
  replace hk := hk.go hb2
  replace ht := ht.go hb2
  replace hr := hr.go hb2
  refine rw_p 10 (.bool false) (fun _ => by kernel_rfl) (fun _ => by kernel_rfl) ?_
  refine rw_nil ?_
  refine nw_then ?_
  refine cw_cond_f (fun _ => by kernel_rfl) ?_
  refine cw_skip ?_
  refine nw_then ?_
  refine cw_seq ?_
  refine cw_draw (fun w => Rw g w #[v] 67) (by kernel_rfl) (hr.drew) ?_
  replace hB := hB.drew
  replace hk := hk.drew
  replace ht := ht.drew
  replace hr := hr.drew
  refine dw_take 0 11 (.pointer (some ⟨g, 0, none⟩)) rfl (by kernel_rfl) (fun _ _ _ h => h) (fun _ => by kernel_rfl) (fun v hv _ => by kernel_rfl) hr ?_
  refine dw_take 1 12 (.pointer (some ⟨g, 0, none⟩)) rfl (by kernel_rfl) (fun _ _ _ h => h) (fun _ => by kernel_rfl) (fun v hv => (fun _ => by kernel_rfl)) hr ?_
  refine dw_take 2 13 (.pointer (some ⟨g, 0, none⟩)) rfl (by kernel_rfl) (fun _ _ _ h => h) (fun _ => by kernel_rfl) (fun v hv _ => by kernel_rfl) hr ?_
  refine dw_take 3 14 (v) rfl (by kernel_rfl) (fun _ _ _ h => h) (fun _ => by kernel_rfl) (fun v hv _ => ol_cell 65 _ ⟨g, 0, none⟩ _ _ rfl (by kernel_rfl) (by rw [cell_of_row _ _ _ _ _ _ hv]; rfl) Tryz.underlying65 rfl) hr ?_
  refine dw_take 4 15 (.slice a n c) rfl (by kernel_rfl) (fun _ _ _ h => h) (fun _ => by kernel_rfl) (fun v hv _ => by kernel_rfl) hr ?_
  refine dw_ready [5] (by kernel_rfl) (by simp) ?_
  refine ar_call 5 16 31 #[.slice a n c] rfl (fun _ => by kernel_rfl) (fun _ => by kernel_rfl) (R := fun u w' => (∃ a', u = .slice a' (2 * n) (2 * n) ∧ Ni.Cut w' (u1.drew).heap.size a' (2 * n) (Ni.nib k)) ∧ Bl (u1.drew) w') (((Ni.of_any _ _ _ k _ hk.ag (by omega)).mono (fun e w' h => by obtain ⟨⟨a', e1, h1⟩, h2⟩ := h; exact ⟨_, e1, ⟨a', rfl, h1⟩, h2⟩))) (fun u w' h => hr.go h.2) ?_ ar_nil
  rintro _ u3 ⟨⟨aq, rfl, hcut⟩, hb4⟩
  have hsq := hB.size
  have hq : Sk K u3 aq (2 * n) (2 * n) (Ni.nib k) := Cut_sk hcut (fun b hb => hK b (Nat.le_trans hsq hb))
  replace hB := hB.go hb4
  replace hk := hk.go hb4
  replace ht := ht.go hb4
  replace hr := hr.go hb4
  refine dw_ready [6] (by kernel_rfl) (by simp) ?_
  refine ar_call 6 17 33 #[v, .slice aq (2 * n) (2 * n)] rfl (fun _ => by kernel_rfl) (fun _ => by kernel_rfl) (R := RS K (u3) (Tr.get t (Ni.nib k))) ((find_any hFS ht hq hnb)) (fun u w' h => hr.go h.2) ?_ ar_nil
  rintro _ u5 ⟨⟨a3, n3, c3, rfl, hs3⟩, hb6⟩
  replace hB := hB.go hb6
  replace hk := hk.go hb6
  replace ht := ht.go hb6
  replace hr := hr.go hb6
  replace hq := hq.go hb6
  refine dw_take 7 7 (.slice a3 n3 c3) rfl (by kernel_rfl) (fun _ _ _ h => h) (fun _ => by kernel_rfl) (fun v hv _ => by kernel_rfl) hr ?_
  refine dw_done (by kernel_rfl) ?_
  refine nw_then ?_
  refine cw_seq ?_
  refine cw_region ?_
  refine rw_p 18 (.slice a3 n3 c3) (fun _ => by kernel_rfl) (fun _ => by kernel_rfl) ?_
  have l3 := hs3.len
  have l4 := ht.len _ hnb
  have hsz := hB.size
  refine rw_call 19 32 #[.slice a3 n3 c3] (fun _ => by kernel_rfl) (fun _ => by kernel_rfl) (R := fun u w' => ∃ a2 n2 c2, u = .slice a2 n2 c2 ∧ Sk (fun b => (u5).heap.size ≤ b) w' a2 n2 c2 (Tr.get t (Ni.nib k)) ∧ Bl (u5) w') ((clone_any hs3 (by omega))) ?_
  rintro _ u7 ⟨a4, n4, c4, rfl, hs4, hb8⟩
  replace hB := hB.go hb8
  replace hk := hk.go hb8
  replace ht := ht.go hb8
  replace hr := hr.go hb8
  replace hq := hq.go hb8
  replace hs3 := hs3.go hb8
  refine rw_p 20 (.slice a3 n3 c3) (fun _ => by kernel_rfl) (fun _ => by kernel_rfl) ?_
  refine rw_p 21 (.int .i64 n3) (fun _ => by kernel_rfl) (fun _ => by kernel_rfl) ?_
  refine rw_p 22 (.bool (decide ((n3 : Int) > (0 : Int)))) (fun _ => by kernel_rfl) (fun _ => by kernel_rfl) ?_
  refine rw_p 4 (.slice a4 n4 c4) (fun _ => by kernel_rfl) (fun _ => by kernel_rfl) ?_
  refine rw_p 5 (.bool (decide ((n3 : Int) > (0 : Int)))) (fun _ => by kernel_rfl) (fun _ => by kernel_rfl) ?_
  refine rw_p 6 (.int .i64 0) (fun _ => by kernel_rfl) (fun _ => by kernel_rfl) ?_
  refine rw_nil ?_
  refine nw_then ?_
  refine cw_ret ?_
  exact nw_ret_body (.tuple #[.slice a4 n4 c4, .bool (decide ((n3 : Int) > (0 : Int))), .int .i64 0]) (fun _ => by kernel_rfl) ⟨_, rfl, ⟨_, _, _, _, rfl, (by rw [← l3]; exact len_pos _), hs4.mono (fun b hb => Nat.le_trans hsz hb)⟩, hB⟩
set_option maxHeartbeats 1000000 in
theorem get_bad {K : Nat → Prop} {w : World} {g : Nat} {a : Option Addr} {n c : Nat} {k : List Int} (hk : Sk K w a n c k) (hn : 32 < n) :
    Calls Tryz.prog 22 #[.pointer (some ⟨g, 0, none⟩), .slice a n c] w fun e w' => ∃ u, e = .returned u ∧ (fun u w' => u = .tuple #[.slice none 0 0, .bool false, .int .i64 70] ∧ Bl w w') u w' := by
  have hB := Bl.refl w
  refine cw_enter Tryz.func22 rfl 23 rfl ?_
  show CW _ _ _ _ _ _ _ [(0, .pointer (some ⟨g, 0, none⟩)), (1, .slice a n c)] _
  refine cw_seq ?_
  refine cw_region ?_
  refine rw_p 4 (.slice none 0 0) (fun _ => by kernel_rfl) (fun _ => by kernel_rfl) ?_
  refine rw_p 5 (.bool false) (fun _ => by kernel_rfl) (fun _ => by kernel_rfl) ?_
  refine rw_p 6 (.int .i64 0) (fun _ => by kernel_rfl) (fun _ => by kernel_rfl) ?_
  refine rw_nil ?_
  refine nw_then ?_
  refine cw_seq ?_
  refine cw_seq ?_
  refine cw_region ?_
  refine rw_p 8 (.slice a n c) (fun _ => by kernel_rfl) (fun _ => by kernel_rfl) ?_
  refine rw_call 9 28 #[.slice a n c] (fun _ => by kernel_rfl) (fun _ => by kernel_rfl) (R := fun u w' => u = .bool false ∧ Bl (w) w') ((iskey_f hn)) ?_
  rintro _ u1 ⟨rfl, hb2⟩
  replace hB := hB.go hb2
  replace hk := hk.go hb2
  refine rw_p 10 (.bool true) (fun _ => by kernel_rfl) (fun _ => by kernel_rfl) ?_
  refine rw_nil ?_
  refine nw_then ?_
  refine cw_cond_t (fun _ => by kernel_rfl) ?_
  refine cw_seq ?_
  refine cw_region ?_
  refine rw_p 4 (.slice none 0 0) (fun _ => by kernel_rfl) (fun _ => by kernel_rfl) ?_
  refine rw_p 5 (.bool false) (fun _ => by kernel_rfl) (fun _ => by kernel_rfl) ?_
  refine rw_p 6 (.int .i64 70) (fun _ => by kernel_rfl) (fun _ => by kernel_rfl) ?_
  refine rw_nil ?_
  refine nw_then ?_
  refine cw_ret ?_
  refine nw_ret_then ?_
  exact nw_ret_body (.tuple #[.slice none 0 0, .bool false, .int .i64 70]) (fun _ => by kernel_rfl) ⟨_, rfl, rfl, hB⟩
set_option maxHeartbeats 4000000 in
theorem tput_ok {K : Nat → Prop} {w : World} {g : Nat} {v : Value} {t : Tr} {a : Option Addr} {n c : Nat} {k : List Int} (hr : Rw g w #[v] 67) (ht : TA K w t v) (hok : t = no ∨ Ok 64 t) (hk : Sk K w a n c k) (hn : n ≤ 32) {K0 : Nat → Prop} {ax : Option Addr} {nx cx : Nat} {x : List Int} (hx : Sk K0 w ax nx cx x) (hx2 : nx ≤ 256) (h0 : 0 < nx) (hK : ∀ b, w.heap.size ≤ b → K b) :
    Calls Tryz.prog 11 #[.pointer (some ⟨g, 0, none⟩), .slice a n c, .slice ax nx cx] w fun e w' => ∃ u, e = .returned u ∧ (fun u w' => u = .int .i64 0 ∧ Tri K w' g (put t (Ni.nib k) x) ∧ Touch g w w') u w' := by
  have hB := Bl.refl w
  have hnb : Nb (Ni.nib k) := nib_nb hk.ag.b
  have hkl : (Ni.nib k).length = 2 * n := by rw [Ni.nib_len, hk.len]
  have hg0 : g < w.heap.size := lt_of_get hr
  have hPF : t = no ∨ ∃ B, Ok B t ∧ B ≤ 64 ∧ (Ni.nib k).length ≤ B ∧ WS t := by
    rcases hok with h | h
    · exact .inl h
    · exact .inr ⟨64, h, Nat.le_refl _, by omega, ws_all t⟩
  refine cw_enter Tryz.func11 rfl 27 rfl ?_
  show CW _ _ _ _ _ _ _ [(0, .pointer (some ⟨g, 0, none⟩)), (1, .slice a n c), (2, .slice ax nx cx)] _
  refine cw_seq ?_
  refine cw_region ?_
  refine rw_p 6 (.int .i64 0) (fun _ => by kernel_rfl) (fun _ => by kernel_rfl) ?_
  refine rw_nil ?_
  refine nw_then ?_
  refine cw_seq ?_
  refine cw_block ?_
  refine cw_seq ?_
  refine cw_region ?_
  refine rw_p 8 (.slice a n c) (fun _ => by kernel_rfl) (fun _ => by kernel_rfl) ?_
  refine rw_call 9 28 #[.slice a n c] (fun _ => by kernel_rfl) (fun _ => by kernel_rfl) (R := fun u w' => u = .bool true ∧ Bl (w) w') ((iskey_t hn)) ?_
  rintro _ u1 ⟨rfl, hb2⟩
  replace hB := hB.go hb2
  replace hk := hk.go hb2
  replace hx := hx.go hb2
  replace ht := ht.go hb2
  replace hr := hr.go hb2
  refine rw_p 10 (.bool false) (fun _ => by kernel_rfl) (fun _ => by kernel_rfl) ?_
  refine rw_p 7 (.bool false) (fun _ => by kernel_rfl) (fun _ => by kernel_rfl) ?_
  refine rw_nil ?_
  refine nw_then ?_
  refine cw_cond_f (fun _ => by kernel_rfl) ?_
  refine cw_seq ?_
  refine cw_region ?_
  refine rw_p 12 (.slice ax nx cx) (fun _ => by kernel_rfl) (fun _ => by kernel_rfl) ?_
  refine rw_call 13 29 #[.slice ax nx cx] (fun _ => by kernel_rfl) (fun _ => by kernel_rfl) (R := fun u w' => u = .bool true ∧ Bl (u1) w') ((isvalue_t h0 hx2)) ?_
  rintro _ u3 ⟨rfl, hb4⟩
  replace hB := hB.go hb4
  replace hk := hk.go hb4
  replace hx := hx.go hb4
  replace ht := ht.go hb4
  replace hr := hr.go hb4
  refine rw_p 14 (.bool false) (fun _ => by kernel_rfl) (fun _ => by kernel_rfl) ?_
  refine rw_p 11 (.bool false) (fun _ => by kernel_rfl) (fun _ => by kernel_rfl) ?_
  refine rw_nil ?_
  refine nw_then ?_
  refine cw_cond_f (fun _ => by kernel_rfl) ?_
  refine cw_skip ?_
  refine nw_block ?_
  refine nw_then ?_
  refine cw_seq ?_
  refine cw_draw (fun _ => True) (by kernel_rfl) (trivial) ?_
  replace hB := hB.drew
  replace hk := hk.drew
  replace hx := hx.drew
  replace ht := ht.drew
  replace hr := hr.drew
  refine dw_take 0 15 (.pointer (some ⟨g, 0, none⟩)) rfl (by kernel_rfl) (fun _ _ _ h => h) (fun _ => by kernel_rfl) (fun v hv _ => by kernel_rfl) trivial ?_
  refine dw_take 1 16 (.pointer (some ⟨g, 0, none⟩)) rfl (by kernel_rfl) (fun _ _ _ h => h) (fun _ => by kernel_rfl) (fun v hv _ => by kernel_rfl) trivial ?_
  refine dw_take 2 17 (.pointer (some ⟨g, 0, none⟩)) rfl (by kernel_rfl) (fun _ _ _ h => h) (fun _ => by kernel_rfl) (fun v hv => (fun _ => by kernel_rfl)) trivial ?_
  refine dw_take 3 18 (.pointer (some ⟨g, 0, none⟩)) rfl (by kernel_rfl) (fun _ _ _ h => h) (fun _ => by kernel_rfl) (fun v hv _ => by kernel_rfl) trivial ?_
  refine dw_take 5 20 (.slice a n c) rfl (by kernel_rfl) (fun _ _ _ h => h) (fun _ => by kernel_rfl) (fun v hv _ => by kernel_rfl) trivial ?_
  refine dw_take 7 22 (.slice ax nx cx) rfl (by kernel_rfl) (fun _ _ _ h => h) (fun _ => by kernel_rfl) (fun v hv _ => by kernel_rfl) trivial ?_
  refine dw_ready [4, 6] (by kernel_rfl) (by simp) ?_
  refine ar_v 4 19 v rfl (fun _ => by kernel_rfl) (fun _ => ol_cell 65 _ ⟨g, 0, none⟩ _ _ rfl (by kernel_rfl) (by rw [cell_of_row _ _ _ _ _ _ hr]; rfl) Tryz.underlying65 rfl) trivial ?_ ?_
  · skip
    refine dw_ready [6] (by kernel_rfl) (by simp) ?_
    refine ar_call 6 21 31 #[.slice a n c] rfl (fun _ => by kernel_rfl) (fun _ => by kernel_rfl) (R := fun u w' => (∃ a', u = .slice a' (2 * n) (2 * n) ∧ Ni.Cut w' (u3.drew).heap.size a' (2 * n) (Ni.nib k)) ∧ Bl (u3.drew) w') (((Ni.of_any _ _ _ k _ hk.ag (by omega)).mono (fun e w' h => by obtain ⟨⟨a', e1, h1⟩, h2⟩ := h; exact ⟨_, e1, ⟨a', rfl, h1⟩, h2⟩))) (fun u w' h => trivial) ?_ ar_nil
    rintro _ u5 ⟨⟨aq, rfl, hcut⟩, hb6⟩
    have hsq := hB.size
    have hq : Sk K u5 aq (2 * n) (2 * n) (Ni.nib k) := Cut_sk hcut (fun b hb => hK b (Nat.le_trans hsq hb))
    replace hB := hB.go hb6
    replace hk := hk.go hb6
    replace hx := hx.go hb6
    replace ht := ht.go hb6
    replace hr := hr.go hb6
    refine dw_ready [8] (by kernel_rfl) (by simp) ?_
    refine ar_call 8 23 32 #[.slice ax nx cx] rfl (fun _ => by kernel_rfl) (fun _ => by kernel_rfl) (R := fun u w' => ∃ a2 n2 c2, u = .slice a2 n2 c2 ∧ Sk (fun b => (u5).heap.size ≤ b) w' a2 n2 c2 x ∧ Bl (u5) w') ((clone_any hx (by omega))) (fun u w' h => trivial) ?_ ar_nil
    rintro _ u7 ⟨a4, n4, c4, rfl, hs4, hb8⟩
    have hsz4 := hB.size
    replace hs4 : Sk K u7 a4 n4 c4 x := hs4.mono (fun b hb => hK b (Nat.le_trans hsz4 hb))
    replace hB := hB.go hb8
    replace hk := hk.go hb8
    replace hx := hx.go hb8
    replace ht := ht.go hb8
    replace hr := hr.go hb8
    replace hq := hq.go hb8
    refine dw_ready [9] (by kernel_rfl) (by simp) ?_
    refine ar_call 9 24 30 #[v, .slice aq (2 * n) (2 * n), .slice a4 n4 c4] rfl (fun _ => by kernel_rfl) (fun _ => by kernel_rfl) (R := TRs K (u7) (put t (Ni.nib k) x)) ((treeput_any hPF ht hq hnb hs4 (by have e1 := hs4.len; have e2 := hx.len; omega) (fun b hb => hK b (Nat.le_trans hB.size hb)))) (fun u w' h => trivial) ?_ ar_nil
    rintro vR u9 ⟨htR, hb10⟩
    replace hB := hB.go hb10
    replace hk := hk.go hb10
    replace hx := hx.go hb10
    replace ht := ht.go hb10
    replace hr := hr.go hb10
    replace hq := hq.go hb10
    replace hs4 := hs4.go hb10
    refine dw_take 10 25 (.pointer (some ⟨g, 0, none⟩)) rfl (by kernel_rfl) (fun _ _ _ h => h) (fun _ => by kernel_rfl) (fun v hv => (fun _ => by kernel_rfl)) trivial ?_
    refine dw_take 11 26 (.pointer (some ⟨g, 0, none⟩)) rfl (by kernel_rfl) (fun _ _ _ h => h) (fun _ => by kernel_rfl) (fun v hv _ => by kernel_rfl) trivial ?_
    refine dw_ready [12] (by kernel_rfl) (by simp) ?_
    refine ar_set1 12 g 0 vR rfl (fun _ => by kernel_rfl) (fun _ => ol_setC 65 _ _ g 0 _ 67 _ hr rfl (by kernel_rfl) (by kernel_rfl) (by show 0 < 1; omega) htR.cells htR.one (by kernel_rfl)) (fun w' h => trivial) ?_ ar_nil
    intro w11 hp12
    have hbs := Bs.of hr (one_noint ht) hp12
    have htch := (Touch.of_below (g := g) hB).trans hp12.touch
    have hTR : Tri K w11 g (put t (Ni.nib k) x) := ⟨⟨vR, hr.set hp12 rfl, htR.bs hbs⟩, .inr (put_ok t 64 _ _ hok hnb (by omega) (by intro e; have := hx.len; rw [e, List.length_nil] at this; omega))⟩
    refine dw_done (by kernel_rfl) ?_
    refine nw_then ?_
    refine cw_seq ?_
    refine cw_region ?_
    refine rw_p 6 (.int .i64 0) (fun _ => by kernel_rfl) (fun _ => by kernel_rfl) ?_
    refine rw_nil ?_
    refine nw_then ?_
    refine cw_ret ?_
    exact nw_ret_body (.int .i64 0) (fun _ => by kernel_rfl) ⟨_, rfl, rfl, hTR, htch⟩
  refine ar_call 6 21 31 #[.slice a n c] rfl (fun _ => by kernel_rfl) (fun _ => by kernel_rfl) (R := fun u w' => (∃ a', u = .slice a' (2 * n) (2 * n) ∧ Ni.Cut w' (u3.drew).heap.size a' (2 * n) (Ni.nib k)) ∧ Bl (u3.drew) w') (((Ni.of_any _ _ _ k _ hk.ag (by omega)).mono (fun e w' h => by obtain ⟨⟨a', e1, h1⟩, h2⟩ := h; exact ⟨_, e1, ⟨a', rfl, h1⟩, h2⟩))) (fun u w' h => trivial) ?_ ar_nil
  rintro _ u13 ⟨⟨aq, rfl, hcut⟩, hb14⟩
  have hsq := hB.size
  have hq : Sk K u13 aq (2 * n) (2 * n) (Ni.nib k) := Cut_sk hcut (fun b hb => hK b (Nat.le_trans hsq hb))
  replace hB := hB.go hb14
  replace hk := hk.go hb14
  replace hx := hx.go hb14
  replace ht := ht.go hb14
  replace hr := hr.go hb14
  refine dw_ready [4, 8] (by kernel_rfl) (by simp) ?_
  refine ar_v 4 19 v rfl (fun _ => by kernel_rfl) (fun _ => ol_cell 65 _ ⟨g, 0, none⟩ _ _ rfl (by kernel_rfl) (by rw [cell_of_row _ _ _ _ _ _ hr]; rfl) Tryz.underlying65 rfl) trivial ?_ ?_
  · skip
    refine dw_ready [8] (by kernel_rfl) (by simp) ?_
    refine ar_call 8 23 32 #[.slice ax nx cx] rfl (fun _ => by kernel_rfl) (fun _ => by kernel_rfl) (R := fun u w' => ∃ a2 n2 c2, u = .slice a2 n2 c2 ∧ Sk (fun b => (u13).heap.size ≤ b) w' a2 n2 c2 x ∧ Bl (u13) w') ((clone_any hx (by omega))) (fun u w' h => trivial) ?_ ar_nil
    rintro _ u15 ⟨a4, n4, c4, rfl, hs4, hb16⟩
    have hsz4 := hB.size
    replace hs4 : Sk K u15 a4 n4 c4 x := hs4.mono (fun b hb => hK b (Nat.le_trans hsz4 hb))
    replace hB := hB.go hb16
    replace hk := hk.go hb16
    replace hx := hx.go hb16
    replace ht := ht.go hb16
    replace hr := hr.go hb16
    replace hq := hq.go hb16
    refine dw_ready [9] (by kernel_rfl) (by simp) ?_
    refine ar_call 9 24 30 #[v, .slice aq (2 * n) (2 * n), .slice a4 n4 c4] rfl (fun _ => by kernel_rfl) (fun _ => by kernel_rfl) (R := TRs K (u15) (put t (Ni.nib k) x)) ((treeput_any hPF ht hq hnb hs4 (by have e1 := hs4.len; have e2 := hx.len; omega) (fun b hb => hK b (Nat.le_trans hB.size hb)))) (fun u w' h => trivial) ?_ ar_nil
    rintro vR u17 ⟨htR, hb18⟩
    replace hB := hB.go hb18
    replace hk := hk.go hb18
    replace hx := hx.go hb18
    replace ht := ht.go hb18
    replace hr := hr.go hb18
    replace hq := hq.go hb18
    replace hs4 := hs4.go hb18
    refine dw_take 10 25 (.pointer (some ⟨g, 0, none⟩)) rfl (by kernel_rfl) (fun _ _ _ h => h) (fun _ => by kernel_rfl) (fun v hv => (fun _ => by kernel_rfl)) trivial ?_
    refine dw_take 11 26 (.pointer (some ⟨g, 0, none⟩)) rfl (by kernel_rfl) (fun _ _ _ h => h) (fun _ => by kernel_rfl) (fun v hv _ => by kernel_rfl) trivial ?_
    refine dw_ready [12] (by kernel_rfl) (by simp) ?_
    refine ar_set1 12 g 0 vR rfl (fun _ => by kernel_rfl) (fun _ => ol_setC 65 _ _ g 0 _ 67 _ hr rfl (by kernel_rfl) (by kernel_rfl) (by show 0 < 1; omega) htR.cells htR.one (by kernel_rfl)) (fun w' h => trivial) ?_ ar_nil
    intro w19 hp20
    have hbs := Bs.of hr (one_noint ht) hp20
    have htch := (Touch.of_below (g := g) hB).trans hp20.touch
    have hTR : Tri K w19 g (put t (Ni.nib k) x) := ⟨⟨vR, hr.set hp20 rfl, htR.bs hbs⟩, .inr (put_ok t 64 _ _ hok hnb (by omega) (by intro e; have := hx.len; rw [e, List.length_nil] at this; omega))⟩
    refine dw_done (by kernel_rfl) ?_
    refine nw_then ?_
    refine cw_seq ?_
    refine cw_region ?_
    refine rw_p 6 (.int .i64 0) (fun _ => by kernel_rfl) (fun _ => by kernel_rfl) ?_
    refine rw_nil ?_
    refine nw_then ?_
    refine cw_ret ?_
    exact nw_ret_body (.int .i64 0) (fun _ => by kernel_rfl) ⟨_, rfl, rfl, hTR, htch⟩
  refine ar_call 8 23 32 #[.slice ax nx cx] rfl (fun _ => by kernel_rfl) (fun _ => by kernel_rfl) (R := fun u w' => ∃ a2 n2 c2, u = .slice a2 n2 c2 ∧ Sk (fun b => (u13).heap.size ≤ b) w' a2 n2 c2 x ∧ Bl (u13) w') ((clone_any hx (by omega))) (fun u w' h => trivial) ?_ ar_nil
  rintro _ u21 ⟨a4, n4, c4, rfl, hs4, hb22⟩
  have hsz4 := hB.size
  replace hs4 : Sk K u21 a4 n4 c4 x := hs4.mono (fun b hb => hK b (Nat.le_trans hsz4 hb))
  replace hB := hB.go hb22
  replace hk := hk.go hb22
  replace hx := hx.go hb22
  replace ht := ht.go hb22
  replace hr := hr.go hb22
  replace hq := hq.go hb22
  refine dw_ready [4] (by kernel_rfl) (by simp) ?_
  refine ar_v 4 19 v rfl (fun _ => by kernel_rfl) (fun _ => ol_cell 65 _ ⟨g, 0, none⟩ _ _ rfl (by kernel_rfl) (by rw [cell_of_row _ _ _ _ _ _ hr]; rfl) Tryz.underlying65 rfl) trivial ?_ ar_nil
  refine dw_ready [9] (by kernel_rfl) (by simp) ?_
  refine ar_call 9 24 30 #[v, .slice aq (2 * n) (2 * n), .slice a4 n4 c4] rfl (fun _ => by kernel_rfl) (fun _ => by kernel_rfl) (R := TRs K (u21) (put t (Ni.nib k) x)) ((treeput_any hPF ht hq hnb hs4 (by have e1 := hs4.len; have e2 := hx.len; omega) (fun b hb => hK b (Nat.le_trans hB.size hb)))) (fun u w' h => trivial) ?_ ar_nil
  rintro vR u23 ⟨htR, hb24⟩
  replace hB := hB.go hb24
  replace hk := hk.go hb24
  replace hx := hx.go hb24
  replace ht := ht.go hb24
  replace hr := hr.go hb24
  replace hq := hq.go hb24
  replace hs4 := hs4.go hb24
  refine dw_take 10 25 (.pointer (some ⟨g, 0, none⟩)) rfl (by kernel_rfl) (fun _ _ _ h => h) (fun _ => by kernel_rfl) (fun v hv => (fun _ => by kernel_rfl)) trivial ?_
  refine dw_take 11 26 (.pointer (some ⟨g, 0, none⟩)) rfl (by kernel_rfl) (fun _ _ _ h => h) (fun _ => by kernel_rfl) (fun v hv _ => by kernel_rfl) trivial ?_
  refine dw_ready [12] (by kernel_rfl) (by simp) ?_
  refine ar_set1 12 g 0 vR rfl (fun _ => by kernel_rfl) (fun _ => ol_setC 65 _ _ g 0 _ 67 _ hr rfl (by kernel_rfl) (by kernel_rfl) (by show 0 < 1; omega) htR.cells htR.one (by kernel_rfl)) (fun w' h => trivial) ?_ ar_nil
  intro w25 hp26
  have hbs := Bs.of hr (one_noint ht) hp26
  have htch := (Touch.of_below (g := g) hB).trans hp26.touch
  have hTR : Tri K w25 g (put t (Ni.nib k) x) := ⟨⟨vR, hr.set hp26 rfl, htR.bs hbs⟩, .inr (put_ok t 64 _ _ hok hnb (by omega) (by intro e; have := hx.len; rw [e, List.length_nil] at this; omega))⟩
  refine dw_done (by kernel_rfl) ?_
  refine nw_then ?_
  refine cw_seq ?_
  refine cw_region ?_
  refine rw_p 6 (.int .i64 0) (fun _ => by kernel_rfl) (fun _ => by kernel_rfl) ?_
  refine rw_nil ?_
  refine nw_then ?_
  refine cw_ret ?_
  exact nw_ret_body (.int .i64 0) (fun _ => by kernel_rfl) ⟨_, rfl, rfl, hTR, htch⟩
set_option maxHeartbeats 1000000 in
theorem tput_v0 {K : Nat → Prop} {w : World} {g : Nat} {a : Option Addr} {n c : Nat} {k : List Int} {ax : Option Addr} {nx cx : Nat} {x : List Int} {K0 : Nat → Prop} (hk : Sk K w a n c k) (hx : Sk K0 w ax nx cx x) (hn : n ≤ 32) (h0 : nx = 0) :
    Calls Tryz.prog 11 #[.pointer (some ⟨g, 0, none⟩), .slice a n c, .slice ax nx cx] w fun e w' => ∃ u, e = .returned u ∧ (fun u w' => u = .int .i64 71 ∧ Bl w w') u w' := by
  have hB := Bl.refl w
  refine cw_enter Tryz.func11 rfl 27 rfl ?_
  show CW _ _ _ _ _ _ _ [(0, .pointer (some ⟨g, 0, none⟩)), (1, .slice a n c), (2, .slice ax nx cx)] _
  refine cw_seq ?_
  refine cw_region ?_
  refine rw_p 6 (.int .i64 0) (fun _ => by kernel_rfl) (fun _ => by kernel_rfl) ?_
  refine rw_nil ?_
  refine nw_then ?_
  refine cw_seq ?_
  refine cw_block ?_
  refine cw_seq ?_
  refine cw_region ?_
  refine rw_p 8 (.slice a n c) (fun _ => by kernel_rfl) (fun _ => by kernel_rfl) ?_
  refine rw_call 9 28 #[.slice a n c] (fun _ => by kernel_rfl) (fun _ => by kernel_rfl) (R := fun u w' => u = .bool true ∧ Bl (w) w') ((iskey_t hn)) ?_
  rintro _ u1 ⟨rfl, hb2⟩
  replace hB := hB.go hb2
  replace hk := hk.go hb2
  replace hx := hx.go hb2
  refine rw_p 10 (.bool false) (fun _ => by kernel_rfl) (fun _ => by kernel_rfl) ?_
  refine rw_p 7 (.bool false) (fun _ => by kernel_rfl) (fun _ => by kernel_rfl) ?_
  refine rw_nil ?_
  refine nw_then ?_
  refine cw_cond_f (fun _ => by kernel_rfl) ?_
  refine cw_seq ?_
  refine cw_region ?_
  refine rw_p 12 (.slice ax nx cx) (fun _ => by kernel_rfl) (fun _ => by kernel_rfl) ?_
  refine rw_call 13 29 #[.slice ax nx cx] (fun _ => by kernel_rfl) (fun _ => by kernel_rfl) (R := fun u w' => u = .bool false ∧ Bl (u1) w') ((isvalue_0 h0)) ?_
  rintro _ u3 ⟨rfl, hb4⟩
  replace hB := hB.go hb4
  replace hk := hk.go hb4
  replace hx := hx.go hb4
  refine rw_p 14 (.bool true) (fun _ => by kernel_rfl) (fun _ => by kernel_rfl) ?_
  refine rw_p 11 (.bool true) (fun _ => by kernel_rfl) (fun _ => by kernel_rfl) ?_
  refine rw_nil ?_
  refine nw_then ?_
  refine cw_cond_t (fun _ => by kernel_rfl) ?_
  refine cw_seq ?_
  refine cw_region ?_
  refine rw_p 6 (.int .i64 71) (fun _ => by kernel_rfl) (fun _ => by kernel_rfl) ?_
  refine rw_nil ?_
  refine nw_then ?_
  refine cw_ret ?_
  refine nw_ret_block ?_
  refine nw_ret_then ?_
  exact nw_ret_body (.int .i64 71) (fun _ => by kernel_rfl) ⟨_, rfl, rfl, hB⟩
set_option maxHeartbeats 1000000 in
theorem tput_vf {K : Nat → Prop} {w : World} {g : Nat} {a : Option Addr} {n c : Nat} {k : List Int} {ax : Option Addr} {nx cx : Nat} {x : List Int} {K0 : Nat → Prop} (hk : Sk K w a n c k) (hx : Sk K0 w ax nx cx x) (hn : n ≤ 32) (h0 : 256 < nx) :
    Calls Tryz.prog 11 #[.pointer (some ⟨g, 0, none⟩), .slice a n c, .slice ax nx cx] w fun e w' => ∃ u, e = .returned u ∧ (fun u w' => u = .int .i64 71 ∧ Bl w w') u w' := by
  have hB := Bl.refl w
  refine cw_enter Tryz.func11 rfl 27 rfl ?_
  show CW _ _ _ _ _ _ _ [(0, .pointer (some ⟨g, 0, none⟩)), (1, .slice a n c), (2, .slice ax nx cx)] _
  refine cw_seq ?_
  refine cw_region ?_
  refine rw_p 6 (.int .i64 0) (fun _ => by kernel_rfl) (fun _ => by kernel_rfl) ?_
  refine rw_nil ?_
  refine nw_then ?_
  refine cw_seq ?_
  refine cw_block ?_
  refine cw_seq ?_
  refine cw_region ?_
  refine rw_p 8 (.slice a n c) (fun _ => by kernel_rfl) (fun _ => by kernel_rfl) ?_
  refine rw_call 9 28 #[.slice a n c] (fun _ => by kernel_rfl) (fun _ => by kernel_rfl) (R := fun u w' => u = .bool true ∧ Bl (w) w') ((iskey_t hn)) ?_
  rintro _ u1 ⟨rfl, hb2⟩
  replace hB := hB.go hb2
  replace hk := hk.go hb2
  replace hx := hx.go hb2
  refine rw_p 10 (.bool false) (fun _ => by kernel_rfl) (fun _ => by kernel_rfl) ?_
  refine rw_p 7 (.bool false) (fun _ => by kernel_rfl) (fun _ => by kernel_rfl) ?_
  refine rw_nil ?_
  refine nw_then ?_
  refine cw_cond_f (fun _ => by kernel_rfl) ?_
  refine cw_seq ?_
  refine cw_region ?_
  refine rw_p 12 (.slice ax nx cx) (fun _ => by kernel_rfl) (fun _ => by kernel_rfl) ?_
  refine rw_call 13 29 #[.slice ax nx cx] (fun _ => by kernel_rfl) (fun _ => by kernel_rfl) (R := fun u w' => u = .bool false ∧ Bl (u1) w') ((isvalue_f h0)) ?_
  rintro _ u3 ⟨rfl, hb4⟩
  replace hB := hB.go hb4
  replace hk := hk.go hb4
  replace hx := hx.go hb4
  refine rw_p 14 (.bool true) (fun _ => by kernel_rfl) (fun _ => by kernel_rfl) ?_
  refine rw_p 11 (.bool true) (fun _ => by kernel_rfl) (fun _ => by kernel_rfl) ?_
  refine rw_nil ?_
  refine nw_then ?_
  refine cw_cond_t (fun _ => by kernel_rfl) ?_
  refine cw_seq ?_
  refine cw_region ?_
  refine rw_p 6 (.int .i64 71) (fun _ => by kernel_rfl) (fun _ => by kernel_rfl) ?_
  refine rw_nil ?_
  refine nw_then ?_
  refine cw_ret ?_
  refine nw_ret_block ?_
  refine nw_ret_then ?_
  exact nw_ret_body (.int .i64 71) (fun _ => by kernel_rfl) ⟨_, rfl, rfl, hB⟩
set_option maxHeartbeats 1000000 in
theorem tput_k {K : Nat → Prop} {w : World} {g : Nat} {a : Option Addr} {n c : Nat} {k : List Int} {ax : Option Addr} {nx cx : Nat} {x : List Int} {K0 : Nat → Prop} (hk : Sk K w a n c k) (hx : Sk K0 w ax nx cx x) (hn : 32 < n) :
    Calls Tryz.prog 11 #[.pointer (some ⟨g, 0, none⟩), .slice a n c, .slice ax nx cx] w fun e w' => ∃ u, e = .returned u ∧ (fun u w' => u = .int .i64 70 ∧ Bl w w') u w' := by
  have hB := Bl.refl w
  refine cw_enter Tryz.func11 rfl 27 rfl ?_
  show CW _ _ _ _ _ _ _ [(0, .pointer (some ⟨g, 0, none⟩)), (1, .slice a n c), (2, .slice ax nx cx)] _
  refine cw_seq ?_
  refine cw_region ?_
  refine rw_p 6 (.int .i64 0) (fun _ => by kernel_rfl) (fun _ => by kernel_rfl) ?_
  refine rw_nil ?_
  refine nw_then ?_
  refine cw_seq ?_
  refine cw_block ?_
  refine cw_seq ?_
  refine cw_region ?_
  refine rw_p 8 (.slice a n c) (fun _ => by kernel_rfl) (fun _ => by kernel_rfl) ?_
  refine rw_call 9 28 #[.slice a n c] (fun _ => by kernel_rfl) (fun _ => by kernel_rfl) (R := fun u w' => u = .bool false ∧ Bl (w) w') ((iskey_f hn)) ?_
  rintro _ u1 ⟨rfl, hb2⟩
  replace hB := hB.go hb2
  replace hk := hk.go hb2
  replace hx := hx.go hb2
  refine rw_p 10 (.bool true) (fun _ => by kernel_rfl) (fun _ => by kernel_rfl) ?_
  refine rw_p 7 (.bool true) (fun _ => by kernel_rfl) (fun _ => by kernel_rfl) ?_
  refine rw_nil ?_
  refine nw_then ?_
  refine cw_cond_t (fun _ => by kernel_rfl) ?_
  refine cw_seq ?_
  refine cw_region ?_
  refine rw_p 6 (.int .i64 70) (fun _ => by kernel_rfl) (fun _ => by kernel_rfl) ?_
  refine rw_nil ?_
  refine nw_then ?_
  refine cw_ret ?_
  refine nw_ret_block ?_
  refine nw_ret_then ?_
  exact nw_ret_body (.int .i64 70) (fun _ => by kernel_rfl) ⟨_, rfl, rfl, hB⟩
set_option maxHeartbeats 1000000 in
theorem delete_k {K : Nat → Prop} {w : World} {g : Nat} {a : Option Addr} {n c : Nat} {k : List Int} (hk : Sk K w a n c k) (hn : 32 < n) :
    Calls Tryz.prog 12 #[.pointer (some ⟨g, 0, none⟩), .slice a n c] w fun e w' => ∃ u, e = .returned u ∧ (fun u w' => u = .tuple #[.bool false, .int .i64 70] ∧ Bl w w') u w' := by
  have hB := Bl.refl w
  refine cw_enter Tryz.func12 rfl 29 rfl ?_
  show CW _ _ _ _ _ _ _ [(0, .pointer (some ⟨g, 0, none⟩)), (1, .slice a n c)] _
  refine cw_seq ?_
  refine cw_region ?_
  refine rw_p 4 (.bool false) (fun _ => by kernel_rfl) (fun _ => by kernel_rfl) ?_
  refine rw_p 5 (.int .i64 0) (fun _ => by kernel_rfl) (fun _ => by kernel_rfl) ?_
  refine rw_nil ?_
  refine nw_then ?_
  refine cw_seq ?_
  refine cw_seq ?_
  refine cw_region ?_
  refine rw_p 7 (.slice a n c) (fun _ => by kernel_rfl) (fun _ => by kernel_rfl) ?_
  refine rw_call 8 28 #[.slice a n c] (fun _ => by kernel_rfl) (fun _ => by kernel_rfl) (R := fun u w' => u = .bool false ∧ Bl (w) w') ((iskey_f hn)) ?_
  rintro _ u1 ⟨rfl, hb2⟩
  replace hB := hB.go hb2
  replace hk := hk.go hb2
  refine rw_p 9 (.bool true) (fun _ => by kernel_rfl) (fun _ => by kernel_rfl) ?_
  refine rw_nil ?_
  refine nw_then ?_
  refine cw_cond_t (fun _ => by kernel_rfl) ?_
  refine cw_seq ?_
  refine cw_region ?_
  refine rw_p 4 (.bool false) (fun _ => by kernel_rfl) (fun _ => by kernel_rfl) ?_
  refine rw_p 5 (.int .i64 70) (fun _ => by kernel_rfl) (fun _ => by kernel_rfl) ?_
  refine rw_nil ?_
  refine nw_then ?_
  refine cw_ret ?_
  refine nw_ret_then ?_
  exact nw_ret_body (.tuple #[.bool false, .int .i64 70]) (fun _ => by kernel_rfl) ⟨_, rfl, rfl, hB⟩
set_option maxHeartbeats 1000000 in
theorem delete_none {K : Nat → Prop} {w : World} {g : Nat} {v : Value} {t : Tr} {a : Option Addr} {n c : Nat} {k : List Int} (hr : Rw g w #[v] 67) (ht : TA K w t v) (hok : t = no ∨ Ok 64 t) (hk : Sk K w a n c k) (hn : n ≤ 32) (hK : ∀ b, w.heap.size ≤ b → K b) (hget : Tr.get t (Ni.nib k) = []) :
    Calls Tryz.prog 12 #[.pointer (some ⟨g, 0, none⟩), .slice a n c] w fun e w' => ∃ u, e = .returned u ∧ (fun u w' => u = .tuple #[.bool false, .int .i64 0] ∧ Bl w w') u w' := by
  have hB := Bl.refl w
  have hnb : Nb (Ni.nib k) := nib_nb hk.ag.b
  have hkl : (Ni.nib k).length = 2 * n := by rw [Ni.nib_len, hk.len]
  have hFS : t = no ∨ ∃ B, Ok B t ∧ FS t := by
    rcases hok with h | h
    · exact .inl h
    · exact .inr ⟨_, h, fs_all t⟩
  refine cw_enter Tryz.func12 rfl 29 rfl ?_
  show CW _ _ _ _ _ _ _ [(0, .pointer (some ⟨g, 0, none⟩)), (1, .slice a n c)] _
  refine cw_seq ?_
  refine cw_region ?_
  refine rw_p 4 (.bool false) (fun _ => by kernel_rfl) (fun _ => by kernel_rfl) ?_
  refine rw_p 5 (.int .i64 0) (fun _ => by kernel_rfl) (fun _ => by kernel_rfl) ?_
  refine rw_nil ?_
  refine nw_then ?_
  refine cw_seq ?_
  refine cw_seq ?_
  refine cw_region ?_
  refine rw_p 7 (.slice a n c) (fun _ => by kernel_rfl) (fun _ => by kernel_rfl) ?_
  refine rw_call 8 28 #[.slice a n c] (fun _ => by kernel_rfl) (fun _ => by kernel_rfl) (R := fun u w' => u = .bool true ∧ Bl (w) w') ((iskey_t hn)) ?_
  rintro _ u1 ⟨rfl, hb2⟩
  replace hB := hB.go hb2
  replace hk := hk.go hb2
  replace ht := ht.go hb2
  replace hr := hr.go hb2
  refine rw_p 9 (.bool false) (fun _ => by kernel_rfl) (fun _ => by kernel_rfl) ?_
  refine rw_nil ?_
  refine nw_then ?_
  refine cw_cond_f (fun _ => by kernel_rfl) ?_
  refine cw_skip ?_
  refine nw_then ?_
  refine cw_seq ?_
  refine cw_region ?_
  refine rw_p 10 (.slice a n c) (fun _ => by kernel_rfl) (fun _ => by kernel_rfl) ?_
  refine rw_call 11 31 #[.slice a n c] (fun _ => by kernel_rfl) (fun _ => by kernel_rfl) (R := fun u w' => (∃ a', u = .slice a' (2 * n) (2 * n) ∧ Ni.Cut w' (u1).heap.size a' (2 * n) (Ni.nib k)) ∧ Bl (u1) w') (((Ni.of_any _ _ _ k _ hk.ag (by omega)).mono (fun e w' h => by obtain ⟨⟨a', e1, h1⟩, h2⟩ := h; exact ⟨_, e1, ⟨a', rfl, h1⟩, h2⟩))) ?_
  rintro _ u3 ⟨⟨aq, rfl, hcut⟩, hb4⟩
  have hsq := hB.size
  have hq : Sk K u3 aq (2 * n) (2 * n) (Ni.nib k) := Cut_sk hcut (fun b hb => hK b (Nat.le_trans hsq hb))
  replace hB := hB.go hb4
  replace hk := hk.go hb4
  replace ht := ht.go hb4
  replace hr := hr.go hb4
  refine rw_p 6 (.slice aq (2 * n) (2 * n)) (fun _ => by kernel_rfl) (fun _ => by kernel_rfl) ?_
  refine rw_nil ?_
  refine nw_then ?_
  refine cw_seq ?_
  refine cw_seq ?_
  refine cw_region ?_
  refine rw_p 12 (.pointer (some ⟨g, 0, none⟩)) (fun _ => by kernel_rfl) (fun _ => by kernel_rfl) ?_
  refine rw_p 13 (.pointer (some ⟨g, 0, none⟩)) (fun _ => by kernel_rfl) (fun _ => by kernel_rfl) ?_
  refine rw_p 14 (.pointer (some ⟨g, 0, none⟩)) (fun _ => by kernel_rfl) (fun _ => by kernel_rfl) ?_
  refine rw_p 15 (v) (fun _ => by kernel_rfl) (fun _ => ol_cell 65 _ ⟨g, 0, none⟩ _ _ rfl (by kernel_rfl) (by rw [cell_of_row _ _ _ _ _ _ hr]; rfl) Tryz.underlying65 rfl) ?_
  refine rw_p 16 (.slice aq (2 * n) (2 * n)) (fun _ => by kernel_rfl) (fun _ => by kernel_rfl) ?_
  refine rw_call 17 33 #[v, .slice aq (2 * n) (2 * n)] (fun _ => by kernel_rfl) (fun _ => by kernel_rfl) (R := RS K (u3) (Tr.get t (Ni.nib k))) ((find_any hFS ht hq hnb)) ?_
  rintro _ u5 ⟨⟨a3, n3, c3, rfl, hs3⟩, hb6⟩
  replace hB := hB.go hb6
  replace hk := hk.go hb6
  replace ht := ht.go hb6
  replace hr := hr.go hb6
  replace hq := hq.go hb6
  refine rw_p 18 (.int .i64 n3) (fun _ => by kernel_rfl) (fun _ => by kernel_rfl) ?_
  refine rw_p 19 (.bool true) (fun _ => by kernel_rfl) (fun _ => ol_conv (v := .bool ((n3 : Int) == (0 : Int))) (by kernel_rfl) (congrArg Value.bool (beq_iff_eq.2 (by have := hs3.len; rw [hget, List.length_nil] at this; omega)))) ?_
  refine rw_nil ?_
  refine nw_then ?_
  refine cw_cond_t (fun _ => by kernel_rfl) ?_
  refine cw_seq ?_
  refine cw_region ?_
  refine rw_p 4 (.bool false) (fun _ => by kernel_rfl) (fun _ => by kernel_rfl) ?_
  refine rw_p 5 (.int .i64 0) (fun _ => by kernel_rfl) (fun _ => by kernel_rfl) ?_
  refine rw_nil ?_
  refine nw_then ?_
  refine cw_ret ?_
  refine nw_ret_then ?_
  exact nw_ret_body (.tuple #[.bool false, .int .i64 0]) (fun _ => by kernel_rfl) ⟨_, rfl, rfl, hB⟩
set_option maxHeartbeats 1000000 in
theorem delete_some {K : Nat → Prop} {w : World} {g : Nat} {v : Value} {t : Tr} {a : Option Addr} {n c : Nat} {k : List Int} (hr : Rw g w #[v] 67) (ht : TA K w t v) (hok : t = no ∨ Ok 64 t) (hk : Sk K w a n c k) (hn : n ≤ 32) (hK : ∀ b, w.heap.size ≤ b → K b) (hget : Tr.get t (Ni.nib k) ≠ []) :
    Calls Tryz.prog 12 #[.pointer (some ⟨g, 0, none⟩), .slice a n c] w fun e w' => ∃ u, e = .returned u ∧ (fun u w' => u = .tuple #[.bool true, .int .i64 0] ∧ Tri K w' g (del t (Ni.nib k)) ∧ Touch g w w') u w' := by
  have hB := Bl.refl w
  have hnb : Nb (Ni.nib k) := nib_nb hk.ag.b
  have hkl : (Ni.nib k).length = 2 * n := by rw [Ni.nib_len, hk.len]
  have hFS : t = no ∨ ∃ B, Ok B t ∧ FS t := by
    rcases hok with h | h
    · exact .inl h
    · exact .inr ⟨_, h, fs_all t⟩
  have hO : Ok 64 t := by
    rcases hok with h | h
    · rw [h] at hget; exact absurd rfl hget
    · exact h
  obtain ⟨T0, v0, rfl⟩ := ht.iface hO.ne
  refine cw_enter Tryz.func12 rfl 29 rfl ?_
  show CW _ _ _ _ _ _ _ [(0, .pointer (some ⟨g, 0, none⟩)), (1, .slice a n c)] _
  refine cw_seq ?_
  refine cw_region ?_
  refine rw_p 4 (.bool false) (fun _ => by kernel_rfl) (fun _ => by kernel_rfl) ?_
  refine rw_p 5 (.int .i64 0) (fun _ => by kernel_rfl) (fun _ => by kernel_rfl) ?_
  refine rw_nil ?_
  refine nw_then ?_
  refine cw_seq ?_
  refine cw_seq ?_
  refine cw_region ?_
  refine rw_p 7 (.slice a n c) (fun _ => by kernel_rfl) (fun _ => by kernel_rfl) ?_
  refine rw_call 8 28 #[.slice a n c] (fun _ => by kernel_rfl) (fun _ => by kernel_rfl) (R := fun u w' => u = .bool true ∧ Bl (w) w') ((iskey_t hn)) ?_
  rintro _ u1 ⟨rfl, hb2⟩
  replace hB := hB.go hb2
  replace hk := hk.go hb2
  replace ht := ht.go hb2
  replace hr := hr.go hb2
  refine rw_p 9 (.bool false) (fun _ => by kernel_rfl) (fun _ => by kernel_rfl) ?_
  refine rw_nil ?_
  refine nw_then ?_
  refine cw_cond_f (fun _ => by kernel_rfl) ?_
  refine cw_skip ?_
  refine nw_then ?_
  refine cw_seq ?_
  refine cw_region ?_
  refine rw_p 10 (.slice a n c) (fun _ => by kernel_rfl) (fun _ => by kernel_rfl) ?_
  refine rw_call 11 31 #[.slice a n c] (fun _ => by kernel_rfl) (fun _ => by kernel_rfl) (R := fun u w' => (∃ a', u = .slice a' (2 * n) (2 * n) ∧ Ni.Cut w' (u1).heap.size a' (2 * n) (Ni.nib k)) ∧ Bl (u1) w') (((Ni.of_any _ _ _ k _ hk.ag (by omega)).mono (fun e w' h => by obtain ⟨⟨a', e1, h1⟩, h2⟩ := h; exact ⟨_, e1, ⟨a', rfl, h1⟩, h2⟩))) ?_
  rintro _ u3 ⟨⟨aq, rfl, hcut⟩, hb4⟩
  have hsq := hB.size
  have hq : Sk K u3 aq (2 * n) (2 * n) (Ni.nib k) := Cut_sk hcut (fun b hb => hK b (Nat.le_trans hsq hb))
  replace hB := hB.go hb4
  replace hk := hk.go hb4
  replace ht := ht.go hb4
  replace hr := hr.go hb4
  refine rw_p 6 (.slice aq (2 * n) (2 * n)) (fun _ => by kernel_rfl) (fun _ => by kernel_rfl) ?_
  refine rw_nil ?_
  refine nw_then ?_
  refine cw_seq ?_
  refine cw_seq ?_
  refine cw_region ?_
  refine rw_p 12 (.pointer (some ⟨g, 0, none⟩)) (fun _ => by kernel_rfl) (fun _ => by kernel_rfl) ?_
  refine rw_p 13 (.pointer (some ⟨g, 0, none⟩)) (fun _ => by kernel_rfl) (fun _ => by kernel_rfl) ?_
  refine rw_p 14 (.pointer (some ⟨g, 0, none⟩)) (fun _ => by kernel_rfl) (fun _ => by kernel_rfl) ?_
  refine rw_p 15 (.iface T0 v0) (fun _ => by kernel_rfl) (fun _ => ol_cell 65 _ ⟨g, 0, none⟩ _ _ rfl (by kernel_rfl) (by rw [cell_of_row _ _ _ _ _ _ hr]; rfl) Tryz.underlying65 rfl) ?_
  refine rw_p 16 (.slice aq (2 * n) (2 * n)) (fun _ => by kernel_rfl) (fun _ => by kernel_rfl) ?_
  refine rw_call 17 33 #[.iface T0 v0, .slice aq (2 * n) (2 * n)] (fun _ => by kernel_rfl) (fun _ => by kernel_rfl) (R := RS K (u3) (Tr.get t (Ni.nib k))) ((find_any hFS ht hq hnb)) ?_
  rintro _ u5 ⟨⟨a3, n3, c3, rfl, hs3⟩, hb6⟩
  replace hB := hB.go hb6
  replace hk := hk.go hb6
  replace ht := ht.go hb6
  replace hr := hr.go hb6
  replace hq := hq.go hb6
  refine rw_p 18 (.int .i64 n3) (fun _ => by kernel_rfl) (fun _ => by kernel_rfl) ?_
  refine rw_p 19 (.bool false) (fun _ => by kernel_rfl) (fun _ => ol_conv (v := .bool ((n3 : Int) == (0 : Int))) (by kernel_rfl) (congrArg Value.bool (beq_eq_false_iff_ne.2 (by have := hs3.len; have := List.length_pos_iff.2 hget; omega)))) ?_
  refine rw_nil ?_
  refine nw_then ?_
  refine cw_cond_f (fun _ => by kernel_rfl) ?_
  refine cw_skip ?_
  refine nw_then ?_
  refine cw_seq ?_
  refine cw_region ?_
  refine rw_p 20 (.pointer (some ⟨g, 0, none⟩)) (fun _ => by kernel_rfl) (fun _ => by kernel_rfl) ?_
  refine rw_p 21 (.pointer (some ⟨g, 0, none⟩)) (fun _ => by kernel_rfl) (fun _ => by kernel_rfl) ?_
  refine rw_p 22 (.pointer (some ⟨g, 0, none⟩)) (fun _ => by kernel_rfl) (fun _ => by kernel_rfl) ?_
  refine rw_p 23 (.pointer (some ⟨g, 0, none⟩)) (fun _ => by kernel_rfl) (fun _ => by kernel_rfl) ?_
  refine rw_p 24 (.iface T0 v0) (fun _ => by kernel_rfl) (fun _ => ol_cell 65 _ ⟨g, 0, none⟩ _ _ rfl (by kernel_rfl) (by rw [cell_of_row _ _ _ _ _ _ hr]; rfl) Tryz.underlying65 rfl) ?_
  refine rw_p 25 (.slice aq (2 * n) (2 * n)) (fun _ => by kernel_rfl) (fun _ => by kernel_rfl) ?_
  obtain ⟨T11, x12, f13, he14, hi9, hc10⟩ := (ds_all t hO (by omega) hnb hget ht hq (fun b hb => hK b (Nat.le_trans hB.size hb)))
  refine rw_call 26 f13 (#[x12] ++ #[.slice aq (2 * n) (2 * n)]) (fun _ => by kernel_rfl) (fun _ => hi9 _ _ _ _ _ _ _ rfl (by kernel_rfl) (by kernel_rfl)) (R := TRs K (u5) (del t (Ni.nib k))) ?_ ?_
  · exact hc10
  rintro vR u7 ⟨htR, hb8⟩
  replace hB := hB.go hb8
  replace hk := hk.go hb8
  replace ht := ht.go hb8
  replace hr := hr.go hb8
  replace hq := hq.go hb8
  replace hs3 := hs3.go hb8
  refine rw_p 27 (.pointer (some ⟨g, 0, none⟩)) (fun _ => by kernel_rfl) (fun _ => by kernel_rfl) ?_
  refine rw_p 28 (.pointer (some ⟨g, 0, none⟩)) (fun _ => by kernel_rfl) (fun _ => by kernel_rfl) ?_
  refine rw_set1 g 0 vR (fun _ => by kernel_rfl) (fun _ => ol_setC 65 _ _ g 0 _ 67 _ hr rfl (by kernel_rfl) (by kernel_rfl) (by show 0 < 1; omega) htR.cells htR.one (by kernel_rfl)) ?_
  intro w15 hp16
  have hbs := Bs.of hr (one_noint ht) hp16
  have htch := (Touch.of_below (g := g) hB).trans hp16.touch
  have hTR : Tri K w15 g (del t (Ni.nib k)) := ⟨⟨vR, hr.set hp16 rfl, htR.bs hbs⟩, (del_ok t 64 _ hO hnb hget).1⟩
  refine rw_nil ?_
  refine nw_then ?_
  refine cw_seq ?_
  refine cw_region ?_
  refine rw_p 4 (.bool true) (fun _ => by kernel_rfl) (fun _ => by kernel_rfl) ?_
  refine rw_p 5 (.int .i64 0) (fun _ => by kernel_rfl) (fun _ => by kernel_rfl) ?_
  refine rw_nil ?_
  refine nw_then ?_
  refine cw_ret ?_
  exact nw_ret_body (.tuple #[.bool true, .int .i64 0]) (fun _ => by kernel_rfl) ⟨_, rfl, rfl, hTR, htch⟩
end Go.Proofs.YtalhnnjpjaeakaaGreat

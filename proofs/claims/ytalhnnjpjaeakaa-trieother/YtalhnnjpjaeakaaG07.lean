/- Slices of bytes joined. -/
import Derived.Test.YtalhnnjpjaeakaaG06
import Derived.Test.YtalhnnjpjaeakaaG04
namespace Go.Proofs.Ytalhnnjpjaeakaa
open Go.RowKit
set_option linter.unusedVariables false
set_option maxRecDepth 100000
theorem ol_app2 {w w' : World} {v u r : Value} {t1 t2 : TypeId} {ρ : Operand → Value} {o : Oper} (hr : ∀ ty, (Builtin.append_ #[t1, t2] ty #[v, u]).run Try.prog w = .ok r w') (x y : Operand) (ho : o.op = .call { callee := .builtin .append, args := #[x, y], argTypes := #[t1, t2] }) (hx : ρ x = v) (hy : ρ y = u) : (execOp ρ o).run Try.prog w = .ok (.value r) w' := by
  unfold execOp
  simp only [ho, resolve, invoke, builtin, Sem.run_bind, Sem.run_pure, Result.andThen_ok, List.map_toArray, List.map_cons, List.map_nil, hx, hy, hr]
theorem zeros_size (n : Nat) : (Builtin.zeroCells #[Value.int .u8 0] n).size = n := by simp [Builtin.zeroCells]
theorem grow_zeros (w : World) (k : Nat) (h0 : 0 < k) (hk : k ≤ 1000000) : ∃ cap w9, (∀ ty, (Builtin.append_ #[23, 3] ty #[.slice none 0 0, .int .i64 ((k : Nat) : Int)]).run Try.prog w = .ok (.slice (some ⟨w.heap.size, 0, none⟩) k cap) w9) ∧ OwnB w9 w.heap.size (.slice (some ⟨w.heap.size, 0, none⟩) 0 cap) [] ∧ Bl w w9 := by
  obtain ⟨i, hi, hz, hsz, hby⟩ := info5
  have hr := fun ty => Lib.run_append_nil_zeros (P := Try.prog) w 23 3 ty 5 i (.int .u8 0) .i64 .i64 Try.underlying23 Try.underlying3 hi hz k h0 (by omega) (by omega) (by rw [hby]; omega)
  refine ⟨_, _, hr, ⟨rfl, .inr ⟨w.heap.size, _, _, rfl, Nat.le_refl _, heap_alloc_new _ _, Nat.zero_le _, grownCap_le_maxLen _ _ _ _ (by unfold maxLen; omega), ?_, rfl⟩⟩, ?_⟩
  · rw [Array.size_append, show (Value.int IntKind.u8 0).cells = #[.int .u8 0] from rfl, zeros_size, zeros_size]
    have := grownCap_ge w k 0 5
    omega
  · exact (Below.refl _ _).drew.alloc (Nat.le_refl _) _
theorem ol_cut0 {w : World} {g n cap : Nat} {ρ : Operand → Value} {o : Oper} (x y : Operand) (ho : o.op = .slice 23 x none (some y) none) (hx : ρ x = .slice (some ⟨g, 0, none⟩) n cap) (hy : ρ y = .int .i64 0) :
    (execOp ρ o).run Try.prog w = .ok (.value (.slice (some ⟨g, 0, none⟩) 0 cap)) w := by
  unfold execOp
  rw [ho]
  simp [hx, hy, Instr.sliceAt, run_underlying Try.underlying23, Instr.slice, Instr.sliceBounds, Instr.sliceBound, asIntOf, addr_add, Result.andThen]
theorem Sk.old {K : Nat → Prop} {w : World} {a : Option Addr} {n c : Nat} {bs : List Int} (h : Sk K w a n c bs) {x : Addr} (hx : a = some x) (hn : 0 < n) : x.block < w.heap.size := by
  rcases h.ag.i with ⟨h1, h2⟩ | ⟨gb, off, h1, h2, h3, h4, h5, h7⟩
  · omega
  · rw [hx] at h1
    cases h1
    have := block_lt_of_cell (h7 0 (by omega))
    exact this
theorem Sk.under {K : Nat → Prop} {w w' : World} {a : Option Addr} {n c B : Nat} {bs : List Int} (h : Sk K w a n c bs) (hx : ∀ x, a = some x → 0 < n → x.block < B) (hb : Below B w w') : Sk K w' a n c bs := by
  refine ⟨⟨?_, h.ag.nil, h.ag.l, h.ag.b⟩, h.k⟩
  rcases h.ag.i with h1 | ⟨gb, off, h1, h2, h3, h4, h5, h7⟩
  · exact .inl h1
  · exact .inr ⟨gb, off, h1, h2, h3, h4, h5, fun j hj => (hb.cell (p := ⟨gb, off + j, none⟩) (show gb < B from hx ⟨gb, off, none⟩ h1 h3)).trans (h7 j hj)⟩
theorem Rw.under {g B : Nat} {w w' : World} {cells : Array Value} {T : TypeId} (h : Rw g w cells T) (hg : g < B) (hb : Below B w w') : Rw g w' cells T := (hb.block g hg).trans h
set_option maxHeartbeats 1000000 in
theorem grow_any {w : World} (k : Nat) (hk : k ≤ 1000000) :
    Calls Try.prog 98 #[.slice none 0 0, .int .i64 ((k : Nat) : Int)] w fun e w' => ∃ u, e = .returned u ∧ OwnB w' w.heap.size u [] ∧ Bl w w' := by
  have hB := Bl.refl w
  refine cw_enter Try.func98 rfl 27 rfl ?_
  show CW _ _ _ _ _ _ _ [(0, .slice none 0 0), (1, .int .i64 ((k : Nat) : Int))] _
  refine cw_seq ?_
  refine cw_region ?_
  refine rw_p 4 (.slice none 0 0) (fun _ => by kernel_rfl) (fun _ => by kernel_rfl) ?_
  refine rw_nil ?_
  refine nw_then ?_
  refine cw_seq ?_
  refine cw_seq ?_
  refine cw_region ?_
  refine rw_p 5 (.int .i64 ((k : Nat) : Int)) (fun _ => by kernel_rfl) (fun _ => by kernel_rfl) ?_
  refine rw_p 6 (.bool false) (fun _ => by kernel_rfl) (fun _ => ol_conv (v := .bool (decide (((k : Nat) : Int) < (0 : Int)))) (by kernel_rfl) (congrArg Value.bool (decide_eq_false (by omega)))) ?_
  refine rw_nil ?_
  refine nw_then ?_
  refine cw_cond_f (fun _ => by kernel_rfl) ?_
  refine cw_skip ?_
  refine nw_then ?_
  refine cw_seq ?_
  refine cw_seq ?_
  refine cw_region ?_
  refine rw_p 8 (.int .i64 ((k : Nat) : Int)) (fun _ => by kernel_rfl) (fun _ => by kernel_rfl) ?_
  refine rw_p 9 (.slice none 0 0) (fun _ => by kernel_rfl) (fun _ => by kernel_rfl) ?_
  refine rw_p 10 (.int .i64 0) (fun _ => by kernel_rfl) (fun _ => by kernel_rfl) ?_
  refine rw_p 11 (.slice none 0 0) (fun _ => by kernel_rfl) (fun _ => by kernel_rfl) ?_
  refine rw_p 12 (.int .i64 0) (fun _ => by kernel_rfl) (fun _ => by kernel_rfl) ?_
  refine rw_p 13 (.int .i64 0) (fun _ => by kernel_rfl) (fun _ => by kernel_rfl) ?_
  refine rw_p 14 (.int .i64 ((k : Nat) : Int)) (fun _ => by kernel_rfl) (fun _ => ol_conv (v := .int .i64 (IntKind.i64.wrap (((k : Nat) : Int) - 0))) (by kernel_rfl) (congrArg (Value.int .i64) (by rw [wrap64 (by omega) (by omega)]; omega))) ?_
  refine rw_p 1 (.int .i64 ((k : Nat) : Int)) (fun _ => by kernel_rfl) (fun _ => by kernel_rfl) ?_
  refine rw_nil ?_
  refine nw_then ?_
  refine cw_seq ?_
  refine cw_region ?_
  refine rw_p 15 (.int .i64 ((k : Nat) : Int)) (fun _ => by kernel_rfl) (fun _ => by kernel_rfl) ?_
  refine rw_p 16 (.bool (decide (((k : Nat) : Int) > (0 : Int)))) (fun _ => by kernel_rfl) (fun _ => by kernel_rfl) ?_
  refine rw_nil ?_
  refine nw_then ?_
  cases hq1 : (decide (((k : Nat) : Int) > (0 : Int))) with
  | true =>
    refine cw_cond_t (fun _ => by kernel_rfl) ?_
    refine cw_region ?_
    refine rw_p 17 (.slice none 0 0) (fun _ => by kernel_rfl) (fun _ => by kernel_rfl) ?_
    refine rw_p 18 (.slice none 0 0) (fun _ => by kernel_rfl) (fun _ => by kernel_rfl) ?_
    refine rw_p 19 (.int .i64 0) (fun _ => by kernel_rfl) (fun _ => by kernel_rfl) ?_
    refine rw_p 20 (.slice none 0 0) (fun _ => by kernel_rfl) (fun _ => by kernel_rfl) ?_
    refine rw_p 21 (.int .i64 ((k : Nat) : Int)) (fun _ => by kernel_rfl) (fun _ => by kernel_rfl) ?_
    obtain ⟨cap9, w9, hr9, ho9, hb9⟩ := grow_zeros w k (by simp only [decide_eq_true_eq] at *; omega) hk
    refine rw_v 22 (.slice (some ⟨w.heap.size, 0, none⟩) k cap9) (fun _ => by kernel_rfl) (fun _ => ol_app2 hr9 _ _ rfl (by kernel_rfl) (by kernel_rfl)) ?_
    refine rw_p 23 (.slice none 0 0) (fun _ => by kernel_rfl) (fun _ => by kernel_rfl) ?_
    refine rw_p 24 (.int .i64 0) (fun _ => by kernel_rfl) (fun _ => by kernel_rfl) ?_
    refine rw_p 25 (.slice (some ⟨w.heap.size, 0, none⟩) 0 cap9) (fun _ => by kernel_rfl) (fun _ => ol_cut0 (n := k) _ _ rfl (by kernel_rfl) (by kernel_rfl)) ?_
    refine rw_p 0 (.slice (some ⟨w.heap.size, 0, none⟩) 0 cap9) (fun _ => by kernel_rfl) (fun _ => by kernel_rfl) ?_
    refine rw_nil ?_
    refine nw_then ?_
    refine cw_seq ?_
    refine cw_region ?_
    refine rw_p 26 (.slice (some ⟨w.heap.size, 0, none⟩) 0 cap9) (fun _ => by kernel_rfl) (fun _ => by kernel_rfl) ?_
    refine rw_p 4 (.slice (some ⟨w.heap.size, 0, none⟩) 0 cap9) (fun _ => by kernel_rfl) (fun _ => by kernel_rfl) ?_
    refine rw_nil ?_
    refine nw_then ?_
    refine cw_ret ?_
    exact nw_ret_body (.slice (some ⟨w.heap.size, 0, none⟩) 0 cap9) (fun _ => by kernel_rfl) ⟨_, rfl, ho9, hb9⟩
  | false =>
    refine cw_cond_f (fun _ => by kernel_rfl) ?_
    refine cw_skip ?_
    refine nw_then ?_
    refine cw_seq ?_
    refine cw_region ?_
    refine rw_p 26 (.slice none 0 0) (fun _ => by kernel_rfl) (fun _ => by kernel_rfl) ?_
    refine rw_p 4 (.slice none 0 0) (fun _ => by kernel_rfl) (fun _ => by kernel_rfl) ?_
    refine rw_nil ?_
    refine nw_then ?_
    refine cw_ret ?_
    exact nw_ret_body (.slice none 0 0) (fun _ => by kernel_rfl) ⟨_, rfl, ⟨rfl, .inl ⟨rfl, rfl⟩⟩, hB⟩
set_option maxHeartbeats 1000000 in
theorem concat_any {K K' : Nat → Prop} {w : World} {a a' : Option Addr} {n c n' c' : Nat} {p q : List Int} (h1 : Sk K w a n c p) (h2 : Sk K' w a' n' c' q) {g : Nat} (hL : Rw g w #[.slice a n c, .slice a' n' c'] 23) (hn : n ≤ 100000) (hn' : n' ≤ 100000) :
    Calls Try.prog 97 #[.slice (some ⟨g, 0, none⟩) 2 2] w fun e w' => ∃ u, e = .returned u ∧ ∃ a2 n2 c2, u = .slice a2 n2 c2 ∧ Sk (fun b => w.heap.size ≤ b) w' a2 n2 c2 (p ++ q) ∧ Bl w w' := by
  have hw1 : ∀ x, a = some x → 0 < n → x.block < w.heap.size := fun x hx hn => h1.old hx hn
  have hw2 : ∀ x, a' = some x → 0 < n' → x.block < w.heap.size := fun x hx hn => h2.old hx hn
  have hgw : g < w.heap.size := lt_of_get hL
  have hB := Bl.refl w
  have l1 := h1.len
  have l2 := h2.len
  refine cw_enter Try.func97 rfl 36 rfl ?_
  show CW _ _ _ _ _ _ _ [(0, .slice (some ⟨g, 0, none⟩) 2 2)] _
  refine cw_seq ?_
  refine cw_region ?_
  refine rw_p 2 (.slice none 0 0) (fun _ => by kernel_rfl) (fun _ => by kernel_rfl) ?_
  refine rw_nil ?_
  refine nw_then ?_
  refine cw_seq ?_
  refine cw_region ?_
  refine rw_p 3 (.int .i64 0) (fun _ => by kernel_rfl) (fun _ => by kernel_rfl) ?_
  refine rw_nil ?_
  refine nw_then ?_
  refine cw_seq ?_
  refine cw_seq ?_
  refine cw_region ?_
  refine rw_p 9 (.slice (some ⟨g, 0, none⟩) 2 2) (fun _ => by kernel_rfl) (fun _ => by kernel_rfl) ?_
  refine rw_p 10 (.int .i64 2) (fun _ => by kernel_rfl) (fun _ => by kernel_rfl) ?_
  refine rw_p 11 (.int .i64 0) (fun _ => by kernel_rfl) (fun _ => by kernel_rfl) ?_
  refine rw_nil ?_
  refine nw_then ?_
  refine cw_block ?_
  refine cw_loop (X := Nat × Nat) (fun x => [(11, .int .i64 ((x.1 : Nat) : Int)), (3, .int .i64 ((x.2 : Nat) : Int)), (9, .slice (some ⟨g, 0, none⟩) 2 2), (10, .int .i64 2), (0, .slice (some ⟨g, 0, none⟩) 2 2), (2, .slice none 0 0)]) (fun x v => (Sk K v a n c p ∧ Sk K' v a' n' c' q ∧ Rw g v #[.slice a n c, .slice a' n' c'] 23 ∧ Bl w v) ∧ (x = (0, 0) ∨ x = (1, n) ∨ x = (2, n + n'))) (fun x => 2 - x.1) (0, 0) (by exact ⟨fun _ => by kernel_rfl, ⟨fun _ => by kernel_rfl, ⟨fun _ => by kernel_rfl, ⟨fun _ => by kernel_rfl, ⟨fun _ => by kernel_rfl, ⟨fun _ => by kernel_rfl, trivial⟩⟩⟩⟩⟩⟩) ⟨⟨h1, h2, hL, hB⟩, .inl rfl⟩ ?_
  clear h1 h2 hL hB
  rintro x v ⟨⟨h1, h2, hL, hB⟩, hx⟩
  rcases hx with rfl | rfl | rfl
  · skip
    show CW _ _ _ _ _ _ _ [(11, .int .i64 0), (3, .int .i64 0), (9, .slice (some ⟨g, 0, none⟩) 2 2), (10, .int .i64 2), (0, .slice (some ⟨g, 0, none⟩) 2 2), (2, .slice none 0 0)] _
    refine cw_seq ?_
    refine cw_region ?_
    refine rw_p 12 (.bool true) (fun _ => by kernel_rfl) (fun _ => by kernel_rfl) ?_
    refine rw_nil ?_
    refine nw_then ?_
    refine cw_seq ?_
    refine cw_cond_t (fun _ => by kernel_rfl) ?_
    refine cw_skip ?_
    refine nw_then ?_
    refine cw_seq ?_
    refine cw_block ?_
    refine cw_seq ?_
    refine cw_region ?_
    refine rw_p 13 (.pointer (some ⟨g, 0, none⟩)) (fun _ => by kernel_rfl) (fun _ => by kernel_rfl) ?_
    refine rw_p 14 (.slice a n c) (fun _ => by kernel_rfl) (fun _ => ol_cell 23 _ ⟨g, 0, none⟩ _ _ rfl (by kernel_rfl) (by rw [cell_of_row _ _ _ _ _ _ hL]; rfl) Try.underlying23 rfl) ?_
    refine rw_p 5 (.slice a n c) (fun _ => by kernel_rfl) (fun _ => by kernel_rfl) ?_
    refine rw_nil ?_
    refine nw_then ?_
    refine cw_seq ?_
    refine cw_region ?_
    refine rw_p 15 (.int .i64 0) (fun _ => by kernel_rfl) (fun _ => by kernel_rfl) ?_
    refine rw_p 16 (.slice a n c) (fun _ => by kernel_rfl) (fun _ => by kernel_rfl) ?_
    refine rw_p 17 (.int .i64 n) (fun _ => by kernel_rfl) (fun _ => by kernel_rfl) ?_
    refine rw_p 18 (.int .i64 ((n : Nat) : Int)) (fun _ => by kernel_rfl) (fun _ => ol_conv (v := .int .i64 (IntKind.i64.wrap ((0 : Int) + ((n : Nat) : Int)))) (by kernel_rfl) (congrArg (Value.int .i64) (by rw [wrap64 (by omega) (by omega)]; omega))) ?_
    refine rw_p 3 (.int .i64 ((n : Nat) : Int)) (fun _ => by kernel_rfl) (fun _ => by kernel_rfl) ?_
    refine rw_nil ?_
    refine nw_then ?_
    refine cw_seq ?_
    refine cw_region ?_
    refine rw_p 19 (.int .i64 ((n : Nat) : Int)) (fun _ => by kernel_rfl) (fun _ => by kernel_rfl) ?_
    refine rw_p 20 (.bool false) (fun _ => by kernel_rfl) (fun _ => ol_conv (v := .bool (decide (((n : Nat) : Int) < (0 : Int)))) (by kernel_rfl) (congrArg Value.bool (decide_eq_false (by omega)))) ?_
    refine rw_nil ?_
    refine nw_then ?_
    refine cw_cond_f (fun _ => by kernel_rfl) ?_
    refine cw_skip ?_
    refine nw_block ?_
    refine nw_then ?_
    refine cw_region ?_
    refine rw_p 22 (.int .i64 1) (fun _ => by kernel_rfl) (fun _ => by kernel_rfl) ?_
    refine rw_p 11 (.int .i64 1) (fun _ => by kernel_rfl) (fun _ => by kernel_rfl) ?_
    refine rw_nil ?_
    exact nw_round (E := fun x => [(11, .int .i64 ((x.1 : Nat) : Int)), (3, .int .i64 ((x.2 : Nat) : Int)), (9, .slice (some ⟨g, 0, none⟩) 2 2), (10, .int .i64 2), (0, .slice (some ⟨g, 0, none⟩) 2 2), (2, .slice none 0 0)]) (R := fun x v => (Sk K v a n c p ∧ Sk K' v a' n' c' q ∧ Rw g v #[.slice a n c, .slice a' n' c'] 23 ∧ Bl w v) ∧ (x = (0, 0) ∨ x = (1, n) ∨ x = (2, n + n'))) (μ := fun x => 2 - x.1) (x := (0, 0)) (1, n) (by exact ⟨fun _ => by kernel_rfl, ⟨fun _ => by kernel_rfl, ⟨fun _ => by kernel_rfl, ⟨fun _ => by kernel_rfl, ⟨fun _ => by kernel_rfl, ⟨fun _ => by kernel_rfl, trivial⟩⟩⟩⟩⟩⟩) ⟨⟨h1, h2, hL, hB⟩, .inr (.inl rfl)⟩ (by show 2 - 1 < 2 - 0; omega)
  · skip
    show CW _ _ _ _ _ _ _ [(11, .int .i64 1), (3, .int .i64 ((n : Nat) : Int)), (9, .slice (some ⟨g, 0, none⟩) 2 2), (10, .int .i64 2), (0, .slice (some ⟨g, 0, none⟩) 2 2), (2, .slice none 0 0)] _
    refine cw_seq ?_
    refine cw_region ?_
    refine rw_p 12 (.bool true) (fun _ => by kernel_rfl) (fun _ => by kernel_rfl) ?_
    refine rw_nil ?_
    refine nw_then ?_
    refine cw_seq ?_
    refine cw_cond_t (fun _ => by kernel_rfl) ?_
    refine cw_skip ?_
    refine nw_then ?_
    refine cw_seq ?_
    refine cw_block ?_
    refine cw_seq ?_
    refine cw_region ?_
    refine rw_p 13 (.pointer (some ⟨g, 1, none⟩)) (fun _ => by kernel_rfl) (fun _ => by kernel_rfl) ?_
    refine rw_p 14 (.slice a' n' c') (fun _ => by kernel_rfl) (fun _ => ol_cell 23 _ ⟨g, 1, none⟩ _ _ rfl (by kernel_rfl) (by rw [cell_of_row _ _ _ _ _ _ hL]; rfl) Try.underlying23 rfl) ?_
    refine rw_p 5 (.slice a' n' c') (fun _ => by kernel_rfl) (fun _ => by kernel_rfl) ?_
    refine rw_nil ?_
    refine nw_then ?_
    refine cw_seq ?_
    refine cw_region ?_
    refine rw_p 15 (.int .i64 ((n : Nat) : Int)) (fun _ => by kernel_rfl) (fun _ => by kernel_rfl) ?_
    refine rw_p 16 (.slice a' n' c') (fun _ => by kernel_rfl) (fun _ => by kernel_rfl) ?_
    refine rw_p 17 (.int .i64 n') (fun _ => by kernel_rfl) (fun _ => by kernel_rfl) ?_
    refine rw_p 18 (.int .i64 ((n + n' : Nat) : Int)) (fun _ => by kernel_rfl) (fun _ => ol_conv (v := .int .i64 (IntKind.i64.wrap (((n : Nat) : Int) + ((n' : Nat) : Int)))) (by kernel_rfl) (congrArg (Value.int .i64) (by rw [wrap64 (by omega) (by omega)]; omega))) ?_
    refine rw_p 3 (.int .i64 ((n + n' : Nat) : Int)) (fun _ => by kernel_rfl) (fun _ => by kernel_rfl) ?_
    refine rw_nil ?_
    refine nw_then ?_
    refine cw_seq ?_
    refine cw_region ?_
    refine rw_p 19 (.int .i64 ((n + n' : Nat) : Int)) (fun _ => by kernel_rfl) (fun _ => by kernel_rfl) ?_
    refine rw_p 20 (.bool false) (fun _ => by kernel_rfl) (fun _ => ol_conv (v := .bool (decide (((n + n' : Nat) : Int) < (0 : Int)))) (by kernel_rfl) (congrArg Value.bool (decide_eq_false (by omega)))) ?_
    refine rw_nil ?_
    refine nw_then ?_
    refine cw_cond_f (fun _ => by kernel_rfl) ?_
    refine cw_skip ?_
    refine nw_block ?_
    refine nw_then ?_
    refine cw_region ?_
    refine rw_p 22 (.int .i64 2) (fun _ => by kernel_rfl) (fun _ => by kernel_rfl) ?_
    refine rw_p 11 (.int .i64 2) (fun _ => by kernel_rfl) (fun _ => by kernel_rfl) ?_
    refine rw_nil ?_
    exact nw_round (E := fun x => [(11, .int .i64 ((x.1 : Nat) : Int)), (3, .int .i64 ((x.2 : Nat) : Int)), (9, .slice (some ⟨g, 0, none⟩) 2 2), (10, .int .i64 2), (0, .slice (some ⟨g, 0, none⟩) 2 2), (2, .slice none 0 0)]) (R := fun x v => (Sk K v a n c p ∧ Sk K' v a' n' c' q ∧ Rw g v #[.slice a n c, .slice a' n' c'] 23 ∧ Bl w v) ∧ (x = (0, 0) ∨ x = (1, n) ∨ x = (2, n + n'))) (μ := fun x => 2 - x.1) (x := (1, n)) (2, n + n') (by exact ⟨fun _ => by kernel_rfl, ⟨fun _ => by kernel_rfl, ⟨fun _ => by kernel_rfl, ⟨fun _ => by kernel_rfl, ⟨fun _ => by kernel_rfl, ⟨fun _ => by kernel_rfl, trivial⟩⟩⟩⟩⟩⟩) ⟨⟨h1, h2, hL, hB⟩, .inr (.inr rfl)⟩ (by show 2 - 2 < 2 - 1; omega)
  · skip
    show CW _ _ _ _ _ _ _ [(11, .int .i64 2), (3, .int .i64 ((n + n' : Nat) : Int)), (9, .slice (some ⟨g, 0, none⟩) 2 2), (10, .int .i64 2), (0, .slice (some ⟨g, 0, none⟩) 2 2), (2, .slice none 0 0)] _
    refine cw_seq ?_
    refine cw_region ?_
    refine rw_p 12 (.bool false) (fun _ => by kernel_rfl) (fun _ => by kernel_rfl) ?_
    refine rw_nil ?_
    refine nw_then ?_
    refine cw_seq ?_
    refine cw_cond_f (fun _ => by kernel_rfl) ?_
    refine cw_exit ?_
    refine nw_exit_then ?_
    refine nw_exit_then ?_
    refine nw_exit_here ?_
    refine nw_then ?_
    refine cw_seq ?_
    have hB0 := hB
    refine cw_region ?_
    refine rw_p 23 (.int .i64 ((n + n' : Nat) : Int)) (fun _ => by kernel_rfl) (fun _ => by kernel_rfl) ?_
    refine rw_call 24 98 #[.slice none 0 0, .int .i64 ((n + n' : Nat) : Int)] (fun _ => by kernel_rfl) (fun _ => by kernel_rfl) (R := fun u w' => OwnB w' v.heap.size u [] ∧ Bl v w') (grow_any (n + n') (by omega)) ?_
    rintro vO u1 ⟨hO, hb1⟩
    replace h1 := h1.go hb1
    replace h2 := h2.go hb1
    replace hB := hB.go hb1
    replace hL := hL.go hb1
    have hsz := hB.size
    refine rw_p 6 (vO) (fun _ => by kernel_rfl) (fun _ => by kernel_rfl) ?_
    refine rw_nil ?_
    refine nw_then ?_
    refine cw_seq ?_
    refine cw_seq ?_
    refine cw_region ?_
    refine rw_p 25 (.slice (some ⟨g, 0, none⟩) 2 2) (fun _ => by kernel_rfl) (fun _ => by kernel_rfl) ?_
    refine rw_p 26 (.int .i64 2) (fun _ => by kernel_rfl) (fun _ => by kernel_rfl) ?_
    refine rw_p 27 (.int .i64 0) (fun _ => by kernel_rfl) (fun _ => by kernel_rfl) ?_
    refine rw_nil ?_
    refine nw_then ?_
    refine cw_block ?_
    have hbv := hb1.size
    refine cw_loop (X := Nat × Value) (fun x => [(27, .int .i64 ((x.1 : Nat) : Int)), (6, x.2), (25, .slice (some ⟨g, 0, none⟩) 2 2), (26, .int .i64 2)]) (fun x v' => (Sk K v' a n c p ∧ Sk K' v' a' n' c' q ∧ Rw g v' #[.slice a n c, .slice a' n' c'] 23 ∧ Bl w v') ∧ v.heap.size ≤ v'.heap.size ∧ ((x.1 = 0 ∧ OwnB v' v.heap.size x.2 []) ∨ (x.1 = 1 ∧ OwnB v' v.heap.size x.2 p) ∨ (x.1 = 2 ∧ OwnB v' v.heap.size x.2 (p ++ q)))) (fun x => 2 - x.1) (0, vO) (by exact ⟨fun _ => by kernel_rfl, ⟨fun _ => by kernel_rfl, ⟨fun _ => by kernel_rfl, ⟨fun _ => by kernel_rfl, trivial⟩⟩⟩⟩) ⟨⟨h1, h2, hL, hB⟩, hbv, .inl ⟨rfl, hO⟩⟩ ?_
    have hwv := hB0.size
    clear h1 h2 hL hB hO hbv
    rintro ⟨j, vP⟩ v' ⟨⟨h1, h2, hL, hB⟩, hbv, hx⟩
    rcases hx with ⟨hj, hO⟩ | ⟨hj, hO⟩ | ⟨hj, hO⟩ <;> simp only at hj hO <;> subst hj
    · skip
      show CW _ _ _ _ _ _ _ [(27, .int .i64 0), (6, vP), (25, .slice (some ⟨g, 0, none⟩) 2 2), (26, .int .i64 2)] _
      refine cw_seq ?_
      refine cw_region ?_
      refine rw_p 28 (.bool true) (fun _ => by kernel_rfl) (fun _ => by kernel_rfl) ?_
      refine rw_nil ?_
      refine nw_then ?_
      refine cw_seq ?_
      refine cw_cond_t (fun _ => by kernel_rfl) ?_
      refine cw_skip ?_
      refine nw_then ?_
      refine cw_seq ?_
      refine cw_block ?_
      refine cw_seq ?_
      refine cw_region ?_
      refine rw_p 29 (.pointer (some ⟨g, 0, none⟩)) (fun _ => by kernel_rfl) (fun _ => by kernel_rfl) ?_
      refine rw_p 30 (.slice a n c) (fun _ => by kernel_rfl) (fun _ => ol_cell 23 _ ⟨g, 0, none⟩ _ _ rfl (by kernel_rfl) (by rw [cell_of_row _ _ _ _ _ _ hL]; rfl) Try.underlying23 rfl) ?_
      refine rw_p 8 (.slice a n c) (fun _ => by kernel_rfl) (fun _ => by kernel_rfl) ?_
      refine rw_nil ?_
      refine nw_then ?_
      refine cw_region ?_
      refine rw_p 31 (vP) (fun _ => by kernel_rfl) (fun _ => by kernel_rfl) ?_
      refine rw_p 32 (.slice a n c) (fun _ => by kernel_rfl) (fun _ => by kernel_rfl) ?_
      obtain ⟨v1, w9, hr9, ho9, hb9⟩ := app_run hO h1.ag (by simp; omega) hbv
      rw [List.nil_append] at ho9
      refine rw_v 33 v1 (fun _ => by kernel_rfl) (fun _ => ol_app hr9 _ _ rfl (by kernel_rfl) (by kernel_rfl)) ?_
      have hb9' : Below w.heap.size v' w9 := hb9.mono hwv
      replace h1 := h1.under hw1 hb9'
      replace h2 := h2.under hw2 hb9'
      replace hL := hL.under hgw hb9'
      replace hB : Bl w w9 := Below.trans hB hb9'
      refine rw_p 6 (v1) (fun _ => by kernel_rfl) (fun _ => by kernel_rfl) ?_
      refine rw_nil ?_
      refine nw_block ?_
      refine nw_then ?_
      refine cw_region ?_
      refine rw_p 34 (.int .i64 1) (fun _ => by kernel_rfl) (fun _ => by kernel_rfl) ?_
      refine rw_p 27 (.int .i64 1) (fun _ => by kernel_rfl) (fun _ => by kernel_rfl) ?_
      refine rw_nil ?_
      exact nw_round (E := fun x => [(27, .int .i64 ((x.1 : Nat) : Int)), (6, x.2), (25, .slice (some ⟨g, 0, none⟩) 2 2), (26, .int .i64 2)]) (R := fun x v' => (Sk K v' a n c p ∧ Sk K' v' a' n' c' q ∧ Rw g v' #[.slice a n c, .slice a' n' c'] 23 ∧ Bl w v') ∧ v.heap.size ≤ v'.heap.size ∧ ((x.1 = 0 ∧ OwnB v' v.heap.size x.2 []) ∨ (x.1 = 1 ∧ OwnB v' v.heap.size x.2 p) ∨ (x.1 = 2 ∧ OwnB v' v.heap.size x.2 (p ++ q)))) (μ := fun x => 2 - x.1) (x := (0, vP)) (1, v1) (by exact ⟨fun _ => by kernel_rfl, ⟨fun _ => by kernel_rfl, ⟨fun _ => by kernel_rfl, ⟨fun _ => by kernel_rfl, trivial⟩⟩⟩⟩) ⟨⟨h1, h2, hL, hB⟩, by have := hb9.size; omega, .inr (.inl ⟨rfl, ho9⟩)⟩ (by show 2 - 1 < 2 - 0; omega)
    · skip
      show CW _ _ _ _ _ _ _ [(27, .int .i64 1), (6, vP), (25, .slice (some ⟨g, 0, none⟩) 2 2), (26, .int .i64 2)] _
      refine cw_seq ?_
      refine cw_region ?_
      refine rw_p 28 (.bool true) (fun _ => by kernel_rfl) (fun _ => by kernel_rfl) ?_
      refine rw_nil ?_
      refine nw_then ?_
      refine cw_seq ?_
      refine cw_cond_t (fun _ => by kernel_rfl) ?_
      refine cw_skip ?_
      refine nw_then ?_
      refine cw_seq ?_
      refine cw_block ?_
      refine cw_seq ?_
      refine cw_region ?_
      refine rw_p 29 (.pointer (some ⟨g, 1, none⟩)) (fun _ => by kernel_rfl) (fun _ => by kernel_rfl) ?_
      refine rw_p 30 (.slice a' n' c') (fun _ => by kernel_rfl) (fun _ => ol_cell 23 _ ⟨g, 1, none⟩ _ _ rfl (by kernel_rfl) (by rw [cell_of_row _ _ _ _ _ _ hL]; rfl) Try.underlying23 rfl) ?_
      refine rw_p 8 (.slice a' n' c') (fun _ => by kernel_rfl) (fun _ => by kernel_rfl) ?_
      refine rw_nil ?_
      refine nw_then ?_
      refine cw_region ?_
      refine rw_p 31 (vP) (fun _ => by kernel_rfl) (fun _ => by kernel_rfl) ?_
      refine rw_p 32 (.slice a' n' c') (fun _ => by kernel_rfl) (fun _ => by kernel_rfl) ?_
      obtain ⟨v1, w9, hr9, ho9, hb9⟩ := app_run hO h2.ag (by omega) hbv
      refine rw_v 33 v1 (fun _ => by kernel_rfl) (fun _ => ol_app hr9 _ _ rfl (by kernel_rfl) (by kernel_rfl)) ?_
      have hb9' : Below w.heap.size v' w9 := hb9.mono hwv
      replace h1 := h1.under hw1 hb9'
      replace h2 := h2.under hw2 hb9'
      replace hL := hL.under hgw hb9'
      replace hB : Bl w w9 := Below.trans hB hb9'
      refine rw_p 6 (v1) (fun _ => by kernel_rfl) (fun _ => by kernel_rfl) ?_
      refine rw_nil ?_
      refine nw_block ?_
      refine nw_then ?_
      refine cw_region ?_
      refine rw_p 34 (.int .i64 2) (fun _ => by kernel_rfl) (fun _ => by kernel_rfl) ?_
      refine rw_p 27 (.int .i64 2) (fun _ => by kernel_rfl) (fun _ => by kernel_rfl) ?_
      refine rw_nil ?_
      exact nw_round (E := fun x => [(27, .int .i64 ((x.1 : Nat) : Int)), (6, x.2), (25, .slice (some ⟨g, 0, none⟩) 2 2), (26, .int .i64 2)]) (R := fun x v' => (Sk K v' a n c p ∧ Sk K' v' a' n' c' q ∧ Rw g v' #[.slice a n c, .slice a' n' c'] 23 ∧ Bl w v') ∧ v.heap.size ≤ v'.heap.size ∧ ((x.1 = 0 ∧ OwnB v' v.heap.size x.2 []) ∨ (x.1 = 1 ∧ OwnB v' v.heap.size x.2 p) ∨ (x.1 = 2 ∧ OwnB v' v.heap.size x.2 (p ++ q)))) (μ := fun x => 2 - x.1) (x := (1, vP)) (2, v1) (by exact ⟨fun _ => by kernel_rfl, ⟨fun _ => by kernel_rfl, ⟨fun _ => by kernel_rfl, ⟨fun _ => by kernel_rfl, trivial⟩⟩⟩⟩) ⟨⟨h1, h2, hL, hB⟩, by have := hb9.size; omega, .inr (.inr ⟨rfl, ho9⟩)⟩ (by show 2 - 2 < 2 - 1; omega)
    · skip
      show CW _ _ _ _ _ _ _ [(27, .int .i64 2), (6, vP), (25, .slice (some ⟨g, 0, none⟩) 2 2), (26, .int .i64 2)] _
      refine cw_seq ?_
      refine cw_region ?_
      refine rw_p 28 (.bool false) (fun _ => by kernel_rfl) (fun _ => by kernel_rfl) ?_
      refine rw_nil ?_
      refine nw_then ?_
      refine cw_seq ?_
      refine cw_cond_f (fun _ => by kernel_rfl) ?_
      refine cw_exit ?_
      refine nw_exit_then ?_
      refine nw_exit_then ?_
      refine nw_exit_here ?_
      refine nw_then ?_
      refine cw_seq ?_
      refine cw_region ?_
      refine rw_p 35 (vP) (fun _ => by kernel_rfl) (fun _ => by kernel_rfl) ?_
      refine rw_p 2 (vP) (fun _ => by kernel_rfl) (fun _ => by kernel_rfl) ?_
      refine rw_nil ?_
      refine nw_then ?_
      refine cw_ret ?_
      obtain ⟨a9, c9, rfl, hs9⟩ := hO.sk (K := fun b => w.heap.size ≤ b) (mem_app h1.ag.b h2.ag.b) (fun b hb => by omega)
      exact nw_ret_body (.slice a9 (p ++ q).length c9) (fun _ => by kernel_rfl) ⟨_, rfl, _, _, _, rfl, hs9, hB⟩
end Go.Proofs.Ytalhnnjpjaeakaa
/- What Common answers. -/
namespace Go.Proofs.Ytalhnnjpjaeakaa.Ni
open Go.RowKit
set_option linter.unusedVariables false
set_option maxHeartbeats 1000000 in
theorem common_any (a1 a2 : Option Addr) (n1 c1 n2 c2 : Nat) (p q : List Int) (w : World) (h1 : Ag w a1 n1 c1 p) (h2 : Ag w a2 n2 c2 q) (hn1 : n1 ≤ 140737488355328) (hn2 : n2 ≤ 140737488355328) :
    Calls Try.prog 95 #[.slice a1 n1 c1, .slice a2 n2 c2] w fun e w' => e = .returned (.int .i64 (com p q : Nat)) ∧ Below w.heap.size w w' := by
  have HL1 := Hid.mk h1.l
  have HL2 := Hid.mk h2.l
  have HC1 := Hid.mk (fun h => ag_head h1 h)
  have HC2 := Hid.mk (fun h => ag_head h2 h)
  clear h1 h2
  obtain ⟨res, hres⟩ : ∃ r, com p q = r := ⟨_, rfl⟩
  rw [hres]
  have HRES := Hid.mk hres
  clear hres
  go_enter Try.func95, Try.ntmps95
  go_wp2_with fail
  go_loopw [5] (fun i v => ∃ j : Nat, j ≤ n1 ∧ j ≤ n2 ∧ i = .int .i64 j ∧ p.take j = q.take j ∧ Below w.heap.size w v) (fun i _ => n1 - (intOf i).toNat)
  case atStart => exact ⟨0, by omega, by omega, rfl, rfl, Below.refl _ _⟩
  case round =>
    obtain ⟨j, hj1, hj2, rfl, htk, hb⟩ := hrel
    have HTK := Hid.mk htk
    have HBW := Hid.mk hb
    clear htk hb
    have HD : Hid ((j = p.length ∨ j = q.length ∨ p.getD j 0 ≠ q.getD j 0) → res = j) := Hid.mk (fun h => HRES.out.symm.trans (com_char p q j (by have := HL1.out; omega) (by have := HL2.out; omega) HTK.out h))
    by_cases hlt1 : j < n1
    case neg =>
      have hji : ¬ (j : Int) < n1 := by omega
      have e := HD.out (.inl (by have := HL1.out; omega))
      subst e
      go_wp2_with fail
      go_region
      all_goals
        go_wp2_with fail
        go_ret
        exact ⟨rfl, HBW.out.drew⟩
    have hji1 : (j : Int) < n1 := by omega
    by_cases hlt2 : j < n2
    case neg =>
      have hji : ¬ (j : Int) < n2 := by omega
      have e := HD.out (.inr (.inl (by have := HL2.out; omega)))
      subst e
      go_wp2_with fail
      go_region
      all_goals
        go_wp2_with fail
        go_ret
        exact ⟨rfl, HBW.out.drew⟩
    have hji2 : (j : Int) < n2 := by omega
    obtain ⟨g1, o1, rfl, hnc1, hcm1, hcs1⟩ := HC1.out (by omega)
    obtain ⟨g2, o2, rfl, hnc2, hcm2, hcs2⟩ := HC2.out (by omega)
    unfold maxLen at hcm1 hcm2
    have hcell1 := (HBW.out.cell (p := ⟨g1, o1 + j, none⟩) (block_lt_of_cell (hcs1 j hlt1))).trans (hcs1 j hlt1)
    have hcell2 := (HBW.out.cell (p := ⟨g2, o2 + j, none⟩) (block_lt_of_cell (hcs2 j hlt2))).trans (hcs2 j hlt2)
    have HT1 := Hid.mk (take_snoc (b := p) (i := j) (by have := HL1.out; omega))
    have HT2 := Hid.mk (take_snoc (b := q) (i := j) (by have := HL2.out; omega))
    generalize p.getD j 0 = x at *
    generalize q.getD j 0 = y at *
    clear hcs1 hcs2
    by_cases hxy : x = y
    · subst hxy
      have hq : (x == x) = true := by simp
      go_wp2_with fail
      go_region
      all_goals
        go_wp2_with fail
        exact ⟨⟨j + 1, by omega, by omega, by simp, by rw [HT1.out, HT2.out, HTK.out], HBW.out.drew⟩, by simp [intOf]; omega⟩
    · have e := HD.out (.inr (.inr hxy))
      subst e
      have hq : (x == y) = false := by simpa using hxy
      clear hxy
      go_wp2_with fail
      go_region
      all_goals
        go_wp2_with fail
        go_ret
        exact ⟨rfl, HBW.out.drew⟩
end Go.Proofs.Ytalhnnjpjaeakaa.Ni

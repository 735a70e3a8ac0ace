/- Slices of bytes joined. -/
import Derived.Test.YtchgejomcgoaeaaGreatG16
import Derived.Test.YtchgejomcgoaeaaGreatG14
import Derived.Test.YtchgejomcgoaeaaGreatG07
import Derived.Deep.RegionHeld3
set_option linter.unusedVariables false
set_option maxRecDepth 100000
namespace Go.Proofs.YtchgejomcgoaeaaGreat
open Go.RowKit
variable {K : Nat → Prop} {w w' : World} {a : Option Addr} {n c B g : Nat} {y : V}
theorem Zvk {w w' : World} {v u r : Value} {t1 t2 : TypeId} {ρ : Operand → Value} {o : Oper} (hr : ∀ ty, (Builtin.append_ #[t1, t2] ty #[v, u]).run Tryz.prog w = .ok r w') (x y : Operand) (ho : o.op = .call { callee := .builtin .append, args := #[x, y], argTypes := #[t1, t2] }) (hx : ρ x = v) (hy : ρ y = u) : (execOp ρ o).run Tryz.prog w = .ok (.value r) w' := by
  unfold execOp
  simp only [ho, resolve, invoke, builtin, Sem.run_bind, Sem.run_pure, Result.andThen_ok, List.map_toArray, List.map_cons, List.map_nil, hx, hy, hr]
theorem Zhn (n : Nat) : (Builtin.zeroCells #[Value.int .u8 0] n).size = n := by simp [Builtin.zeroCells]
theorem Znm (w : World) (k : Nat) (h0 : 0 < k) (hk : k ≤ 1000000) : ∃ cap w9, (∀ ty, (Builtin.append_ #[29, 3] ty #[.slice none 0 0, .int .i64 ((k : Nat) : Int)]).run Tryz.prog w = .ok (.slice (some ⟨w.heap.size, 0, none⟩) k cap) w9) ∧ OwnB w9 w.heap.size (.slice (some ⟨w.heap.size, 0, none⟩) 0 cap) [] ∧ Bl w w9 := by
  obtain ⟨i, hi, hz, hsz, hby⟩ := info5
  have hr := fun ty => Lib.run_append_nil_zeros (P := Tryz.prog) w 29 3 ty 5 i (.int .u8 0) .i64 .i64 Tryz.underlying29 Tryz.underlying3 hi hz k h0 (by omega) (by omega) (by rw [hby]; omega)
  refine ⟨_, _, hr, ⟨rfl, .inr ⟨w.heap.size, _, _, rfl, Nat.le_refl _, heap_alloc_new _ _, Nat.zero_le _, grownCap_le_maxLen _ _ _ _ (by unfold maxLen; omega), ?_, rfl⟩⟩, ?_⟩
  · rw [Array.size_append, show (Value.int IntKind.u8 0).cells = #[.int .u8 0] from rfl, Zhn, Zhn]
    have := grownCap_ge w k 0 5
    omega
  · exact (Below.refl _ _).drew.alloc (Nat.le_refl _) _
theorem Zvi {w : World} {g n cap : Nat} {ρ : Operand → Value} {o : Oper} (x y : Operand) (ho : o.op = .slice 29 x none (some y) none) (hx : ρ x = .slice (some ⟨g, 0, none⟩) n cap) (hy : ρ y = .int .i64 0) :
    (execOp ρ o).run Tryz.prog w = .ok (.value (.slice (some ⟨g, 0, none⟩) 0 cap)) w := by
  unfold execOp
  rw [ho]
  simp [hx, hy, Instr.sliceAt, run_underlying Tryz.underlying29, Instr.slice, Instr.sliceBounds, Instr.sliceBound, asIntOf, Zbb, Result.andThen]
theorem Sk.old {bs : List Int} (h : Sk K w a n c bs) {x : Addr} (hx : a = some x) (hn : 0 < n) : x.block < w.heap.size := by
  rcases h.ag.i with ⟨h1, h2⟩ | ⟨gb, off, h1, h2, h3, h4, h5, h7⟩
  · omega
  · rw [hx] at h1
    cases h1
    have := block_lt_of_cell (h7 0 (by omega))
    exact this
theorem Sk.under {bs : List Int} (h : Sk K w a n c bs) (hx : ∀ x, a = some x → 0 < n → x.block < B) (hb : Below B w w') : Sk K w' a n c bs := by
  refine ⟨⟨?_, h.ag.nil, h.ag.l, h.ag.b⟩, h.k⟩
  rcases h.ag.i with h1 | ⟨gb, off, h1, h2, h3, h4, h5, h7⟩
  · exact .inl h1
  · exact .inr ⟨gb, off, h1, h2, h3, h4, h5, fun j hj => (hb.cell (p := ⟨gb, off + j, none⟩) (show gb < B from hx ⟨gb, off, none⟩ h1 h3)).trans (h7 j hj)⟩
theorem Rw.under {cells : Array Value} {T : TypeId} (h : Rw g w cells T) (hg : g < B) (hb : Below B w w') : Rw g w' cells T := (hb.block g hg).trans h
set_option maxHeartbeats 1000000 in
theorem Zs6 (k : Nat) (hk : k ≤ 1000000) :
    Calls Tryz.prog 117 #[.slice none 0 0, .int .i64 ((k : Nat) : Int)] w fun e w' => ∃ u, e = .returned u ∧ OwnB w' w.heap.size u [] ∧ Bl w w' := by
  have hB := Bl.refl w
  refine Zaj Tryz.func117 rfl 27 rfl ?_
  show CW _ _ _ _ _ _ _ [(0, .slice none 0 0), (1, .int .i64 ((k : Nat) : Int))] _
  refine Zac ?_
  refine Zaa ?_
  refine rp 4 (.slice none 0 0) ?_
  refine Zad ?_
  refine Zab ?_
  refine Zac ?_
  refine Zac ?_
  refine Zaa ?_
  refine rp 5 (.int .i64 ((k : Nat) : Int)) ?_
  refine rv 6 (.bool false) (fun _ => Zal (v := .bool (decide (((k : Nat) : Int) < (0 : Int)))) (by kernel_rfl) (congrArg Value.bool (decide_eq_false (by omega)))) ?_
  refine Zad ?_
  refine Zab ?_
  refine Zaf (fun _ => by kernel_rfl) ?_
  refine Zam ?_
  refine Zab ?_
  refine Zac ?_
  refine Zac ?_
  refine Zaa ?_
  refine rp 8 (.int .i64 ((k : Nat) : Int)) ?_
  refine rp 9 (.slice none 0 0) ?_
  refine rp 10 (.int .i64 0) ?_
  refine rp 11 (.slice none 0 0) ?_
  refine rp 12 (.int .i64 0) ?_
  refine rp 13 (.int .i64 0) ?_
  refine rv 14 (.int .i64 ((k : Nat) : Int)) (fun _ => Zal (v := .int .i64 (IntKind.i64.wrap (((k : Nat) : Int) - 0))) (by kernel_rfl) (congrArg (Value.int .i64) (by rw [Zbc (by omega) (by omega)]; omega))) ?_
  refine rp 1 (.int .i64 ((k : Nat) : Int)) ?_
  refine Zad ?_
  refine Zab ?_
  refine Zac ?_
  refine Zaa ?_
  refine rp 15 (.int .i64 ((k : Nat) : Int)) ?_
  refine rp 16 (.bool (decide (((k : Nat) : Int) > (0 : Int)))) ?_
  refine Zad ?_
  refine Zab ?_
  cases hq1 : (decide (((k : Nat) : Int) > (0 : Int))) with
  | true =>
    refine Zai (fun _ => by kernel_rfl) ?_
    refine Zaa ?_
    refine rp 17 (.slice none 0 0) ?_
    refine rp 18 (.slice none 0 0) ?_
    refine rp 19 (.int .i64 0) ?_
    refine rp 20 (.slice none 0 0) ?_
    refine rp 21 (.int .i64 ((k : Nat) : Int)) ?_
    obtain ⟨cap9, w9, hr9, ho9, hb9⟩ := Znm w k (by simp only [decide_eq_true_eq] at *; omega) hk
    refine rw_v 22 (.slice (some ⟨w.heap.size, 0, none⟩) k cap9) (fun _ => by kernel_rfl) (fun _ => Zvk hr9 _ _ rfl (by kernel_rfl) (by kernel_rfl)) ?_
    refine rp 23 (.slice none 0 0) ?_
    refine rp 24 (.int .i64 0) ?_
    refine rv 25 (.slice (some ⟨w.heap.size, 0, none⟩) 0 cap9) (fun _ => Zvi (n := k) _ _ rfl (by kernel_rfl) (by kernel_rfl)) ?_
    refine rp 0 (.slice (some ⟨w.heap.size, 0, none⟩) 0 cap9) ?_
    refine Zad ?_
    refine Zab ?_
    refine Zac ?_
    refine Zaa ?_
    refine rp 26 (.slice (some ⟨w.heap.size, 0, none⟩) 0 cap9) ?_
    refine rp 4 (.slice (some ⟨w.heap.size, 0, none⟩) 0 cap9) ?_
    refine Zad ?_
    refine Zab ?_
    refine Zap ?_
    exact Zae (.slice (some ⟨w.heap.size, 0, none⟩) 0 cap9) (fun _ => by kernel_rfl) ⟨_, rfl, ho9, hb9⟩
  | false =>
    refine Zaf (fun _ => by kernel_rfl) ?_
    refine Zam ?_
    refine Zab ?_
    refine Zac ?_
    refine Zaa ?_
    refine rp 26 (.slice none 0 0) ?_
    refine rp 4 (.slice none 0 0) ?_
    refine Zad ?_
    refine Zab ?_
    refine Zap ?_
    exact Zae (.slice none 0 0) (fun _ => by kernel_rfl) ⟨_, rfl, ⟨rfl, .inl ⟨rfl, rfl⟩⟩, hB⟩
set_option maxHeartbeats 1000000 in
theorem Zh5 {K' : Nat → Prop} {a' : Option Addr} {n' c' : Nat} {p q : List Int} (h1 : Sk K w a n c p) (h2 : Sk K' w a' n' c' q) (hL : Rw g w #[.slice a n c, .slice a' n' c'] 29) (hn : n ≤ 100000) (hn' : n' ≤ 100000) :
    Calls Tryz.prog 97 #[.slice (some ⟨g, 0, none⟩) 2 2] w fun e w' => ∃ u, e = .returned u ∧ ∃ a2 n2 c2, u = .slice a2 n2 c2 ∧ Sk (fun b => w.heap.size ≤ b) w' a2 n2 c2 (p ++ q) ∧ Bl w w' := by
  have hw1 : ∀ x, a = some x → 0 < n → x.block < w.heap.size := fun x hx hn => h1.old hx hn
  have hw2 : ∀ x, a' = some x → 0 < n' → x.block < w.heap.size := fun x hx hn => h2.old hx hn
  have hgw : g < w.heap.size := lt_of_get hL
  have hB := Bl.refl w
  have l1 := h1.len
  have l2 := h2.len
  refine Zaj Tryz.func97 rfl 36 rfl ?_
  show CW _ _ _ _ _ _ _ [(0, .slice (some ⟨g, 0, none⟩) 2 2)] _
  refine Zac ?_
  refine Zaa ?_
  refine rp 2 (.slice none 0 0) ?_
  refine Zad ?_
  refine Zab ?_
  refine Zac ?_
  refine Zaa ?_
  refine rp 3 (.int .i64 0) ?_
  refine Zad ?_
  refine Zab ?_
  refine Zac ?_
  refine Zac ?_
  refine Zaa ?_
  refine rp 9 (.slice (some ⟨g, 0, none⟩) 2 2) ?_
  refine rp 10 (.int .i64 2) ?_
  refine rp 11 (.int .i64 0) ?_
  refine Zad ?_
  refine Zab ?_
  refine Zan ?_
  refine Zb8 (X := Nat × Nat) (fun x => [(11, .int .i64 ((x.1 : Nat) : Int)), (3, .int .i64 ((x.2 : Nat) : Int)), (9, .slice (some ⟨g, 0, none⟩) 2 2), (10, .int .i64 2), (0, .slice (some ⟨g, 0, none⟩) 2 2), (2, .slice none 0 0)]) (fun x v => (Sk K v a n c p ∧ Sk K' v a' n' c' q ∧ Rw g v #[.slice a n c, .slice a' n' c'] 29 ∧ Bl w v) ∧ (x = (0, 0) ∨ x = (1, n) ∨ x = (2, n + n'))) (fun x => 2 - x.1) (0, 0) (by exact ⟨fun _ => by kernel_rfl, ⟨fun _ => by kernel_rfl, ⟨fun _ => by kernel_rfl, ⟨fun _ => by kernel_rfl, ⟨fun _ => by kernel_rfl, ⟨fun _ => by kernel_rfl, trivial⟩⟩⟩⟩⟩⟩) ⟨⟨h1, h2, hL, hB⟩, .inl rfl⟩ ?_
  clear h1 h2 hL hB
  rintro x v ⟨⟨h1, h2, hL, hB⟩, hx⟩
  rcases hx with rfl | rfl | rfl
  · skip
    show CW _ _ _ _ _ _ _ [(11, .int .i64 0), (3, .int .i64 0), (9, .slice (some ⟨g, 0, none⟩) 2 2), (10, .int .i64 2), (0, .slice (some ⟨g, 0, none⟩) 2 2), (2, .slice none 0 0)] _
    refine Zac ?_
    refine Zaa ?_
    refine rp 12 (.bool true) ?_
    refine Zad ?_
    refine Zab ?_
    refine Zac ?_
    refine Zai (fun _ => by kernel_rfl) ?_
    refine Zam ?_
    refine Zab ?_
    refine Zac ?_
    refine Zan ?_
    refine Zac ?_
    refine Zaa ?_
    refine rp 13 (.pointer (some ⟨g, 0, none⟩)) ?_
    refine rv 14 (.slice a n c) (fun _ => Zag 29 _ ⟨g, 0, none⟩ _ _ rfl (by kernel_rfl) (by rw [cell_of_row _ _ _ _ _ _ hL]; rfl) Tryz.underlying29 rfl) ?_
    refine rp 5 (.slice a n c) ?_
    refine Zad ?_
    refine Zab ?_
    refine Zac ?_
    refine Zaa ?_
    refine rp 15 (.int .i64 0) ?_
    refine rp 16 (.slice a n c) ?_
    refine rp 17 (.int .i64 n) ?_
    refine rv 18 (.int .i64 ((n : Nat) : Int)) (fun _ => Zal (v := .int .i64 (IntKind.i64.wrap ((0 : Int) + ((n : Nat) : Int)))) (by kernel_rfl) (congrArg (Value.int .i64) (by rw [Zbc (by omega) (by omega)]; omega))) ?_
    refine rp 3 (.int .i64 ((n : Nat) : Int)) ?_
    refine Zad ?_
    refine Zab ?_
    refine Zac ?_
    refine Zaa ?_
    refine rp 19 (.int .i64 ((n : Nat) : Int)) ?_
    refine rv 20 (.bool false) (fun _ => Zal (v := .bool (decide (((n : Nat) : Int) < (0 : Int)))) (by kernel_rfl) (congrArg Value.bool (decide_eq_false (by omega)))) ?_
    refine Zad ?_
    refine Zab ?_
    refine Zaf (fun _ => by kernel_rfl) ?_
    refine Zam ?_
    refine Zau ?_
    refine Zab ?_
    refine Zaa ?_
    refine rp 22 (.int .i64 1) ?_
    refine rp 11 (.int .i64 1) ?_
    refine Zad ?_
    exact Za7 (E := fun x => [(11, .int .i64 ((x.1 : Nat) : Int)), (3, .int .i64 ((x.2 : Nat) : Int)), (9, .slice (some ⟨g, 0, none⟩) 2 2), (10, .int .i64 2), (0, .slice (some ⟨g, 0, none⟩) 2 2), (2, .slice none 0 0)]) (R := fun x v => (Sk K v a n c p ∧ Sk K' v a' n' c' q ∧ Rw g v #[.slice a n c, .slice a' n' c'] 29 ∧ Bl w v) ∧ (x = (0, 0) ∨ x = (1, n) ∨ x = (2, n + n'))) (μ := fun x => 2 - x.1) (x := (0, 0)) (1, n) (by exact ⟨fun _ => by kernel_rfl, ⟨fun _ => by kernel_rfl, ⟨fun _ => by kernel_rfl, ⟨fun _ => by kernel_rfl, ⟨fun _ => by kernel_rfl, ⟨fun _ => by kernel_rfl, trivial⟩⟩⟩⟩⟩⟩) ⟨⟨h1, h2, hL, hB⟩, .inr (.inl rfl)⟩ (by show 2 - 1 < 2 - 0; omega)
  · skip
    show CW _ _ _ _ _ _ _ [(11, .int .i64 1), (3, .int .i64 ((n : Nat) : Int)), (9, .slice (some ⟨g, 0, none⟩) 2 2), (10, .int .i64 2), (0, .slice (some ⟨g, 0, none⟩) 2 2), (2, .slice none 0 0)] _
    refine Zac ?_
    refine Zaa ?_
    refine rp 12 (.bool true) ?_
    refine Zad ?_
    refine Zab ?_
    refine Zac ?_
    refine Zai (fun _ => by kernel_rfl) ?_
    refine Zam ?_
    refine Zab ?_
    refine Zac ?_
    refine Zan ?_
    refine Zac ?_
    refine Zaa ?_
    refine rp 13 (.pointer (some ⟨g, 1, none⟩)) ?_
    refine rv 14 (.slice a' n' c') (fun _ => Zag 29 _ ⟨g, 1, none⟩ _ _ rfl (by kernel_rfl) (by rw [cell_of_row _ _ _ _ _ _ hL]; rfl) Tryz.underlying29 rfl) ?_
    refine rp 5 (.slice a' n' c') ?_
    refine Zad ?_
    refine Zab ?_
    refine Zac ?_
    refine Zaa ?_
    refine rp 15 (.int .i64 ((n : Nat) : Int)) ?_
    refine rp 16 (.slice a' n' c') ?_
    refine rp 17 (.int .i64 n') ?_
    refine rv 18 (.int .i64 ((n + n' : Nat) : Int)) (fun _ => Zal (v := .int .i64 (IntKind.i64.wrap (((n : Nat) : Int) + ((n' : Nat) : Int)))) (by kernel_rfl) (congrArg (Value.int .i64) (by rw [Zbc (by omega) (by omega)]; omega))) ?_
    refine rp 3 (.int .i64 ((n + n' : Nat) : Int)) ?_
    refine Zad ?_
    refine Zab ?_
    refine Zac ?_
    refine Zaa ?_
    refine rp 19 (.int .i64 ((n + n' : Nat) : Int)) ?_
    refine rv 20 (.bool false) (fun _ => Zal (v := .bool (decide (((n + n' : Nat) : Int) < (0 : Int)))) (by kernel_rfl) (congrArg Value.bool (decide_eq_false (by omega)))) ?_
    refine Zad ?_
    refine Zab ?_
    refine Zaf (fun _ => by kernel_rfl) ?_
    refine Zam ?_
    refine Zau ?_
    refine Zab ?_
    refine Zaa ?_
    refine rp 22 (.int .i64 2) ?_
    refine rp 11 (.int .i64 2) ?_
    refine Zad ?_
    exact Za7 (E := fun x => [(11, .int .i64 ((x.1 : Nat) : Int)), (3, .int .i64 ((x.2 : Nat) : Int)), (9, .slice (some ⟨g, 0, none⟩) 2 2), (10, .int .i64 2), (0, .slice (some ⟨g, 0, none⟩) 2 2), (2, .slice none 0 0)]) (R := fun x v => (Sk K v a n c p ∧ Sk K' v a' n' c' q ∧ Rw g v #[.slice a n c, .slice a' n' c'] 29 ∧ Bl w v) ∧ (x = (0, 0) ∨ x = (1, n) ∨ x = (2, n + n'))) (μ := fun x => 2 - x.1) (x := (1, n)) (2, n + n') (by exact ⟨fun _ => by kernel_rfl, ⟨fun _ => by kernel_rfl, ⟨fun _ => by kernel_rfl, ⟨fun _ => by kernel_rfl, ⟨fun _ => by kernel_rfl, ⟨fun _ => by kernel_rfl, trivial⟩⟩⟩⟩⟩⟩) ⟨⟨h1, h2, hL, hB⟩, .inr (.inr rfl)⟩ (by show 2 - 2 < 2 - 1; omega)
  · skip
    show CW _ _ _ _ _ _ _ [(11, .int .i64 2), (3, .int .i64 ((n + n' : Nat) : Int)), (9, .slice (some ⟨g, 0, none⟩) 2 2), (10, .int .i64 2), (0, .slice (some ⟨g, 0, none⟩) 2 2), (2, .slice none 0 0)] _
    refine Zac ?_
    refine Zaa ?_
    refine rp 12 (.bool false) ?_
    refine Zad ?_
    refine Zab ?_
    refine Zac ?_
    refine Zaf (fun _ => by kernel_rfl) ?_
    refine Zb1 ?_
    refine Zat ?_
    refine Zat ?_
    refine Za1 ?_
    refine Zab ?_
    refine Zac ?_
    have hB0 := hB
    refine Zaa ?_
    refine rp 23 (.int .i64 ((n + n' : Nat) : Int)) ?_
    refine Zak 24 117 #[.slice none 0 0, .int .i64 ((n + n' : Nat) : Int)] (fun _ => by kernel_rfl) (fun _ => by kernel_rfl) (R := fun u w' => OwnB w' v.heap.size u [] ∧ Bl v w') (Zs6 (n + n') (by omega)) ?_
    rintro vO u1 ⟨hO, hb1⟩
    replace h1 := h1.go hb1
    replace h2 := h2.go hb1
    replace hB := hB.go hb1
    replace hL := hL.go hb1
    have hsz := hB.size
    refine rp 6 (vO) ?_
    refine Zad ?_
    refine Zab ?_
    refine Zac ?_
    refine Zac ?_
    refine Zaa ?_
    refine rp 25 (.slice (some ⟨g, 0, none⟩) 2 2) ?_
    refine rp 26 (.int .i64 2) ?_
    refine rp 27 (.int .i64 0) ?_
    refine Zad ?_
    refine Zab ?_
    refine Zan ?_
    have hbv := hb1.size
    refine Zb8 (X := Nat × Value) (fun x => [(27, .int .i64 ((x.1 : Nat) : Int)), (6, x.2), (25, .slice (some ⟨g, 0, none⟩) 2 2), (26, .int .i64 2)]) (fun x v' => (Sk K v' a n c p ∧ Sk K' v' a' n' c' q ∧ Rw g v' #[.slice a n c, .slice a' n' c'] 29 ∧ Bl w v') ∧ v.heap.size ≤ v'.heap.size ∧ ((x.1 = 0 ∧ OwnB v' v.heap.size x.2 []) ∨ (x.1 = 1 ∧ OwnB v' v.heap.size x.2 p) ∨ (x.1 = 2 ∧ OwnB v' v.heap.size x.2 (p ++ q)))) (fun x => 2 - x.1) (0, vO) (by exact ⟨fun _ => by kernel_rfl, ⟨fun _ => by kernel_rfl, ⟨fun _ => by kernel_rfl, ⟨fun _ => by kernel_rfl, trivial⟩⟩⟩⟩) ⟨⟨h1, h2, hL, hB⟩, hbv, .inl ⟨rfl, hO⟩⟩ ?_
    have hwv := hB0.size
    clear h1 h2 hL hB hO hbv
    rintro ⟨j, vP⟩ v' ⟨⟨h1, h2, hL, hB⟩, hbv, hx⟩
    rcases hx with ⟨hj, hO⟩ | ⟨hj, hO⟩ | ⟨hj, hO⟩ <;> simp only at hj hO <;> subst hj
    · skip
      show CW _ _ _ _ _ _ _ [(27, .int .i64 0), (6, vP), (25, .slice (some ⟨g, 0, none⟩) 2 2), (26, .int .i64 2)] _
      refine Zac ?_
      refine Zaa ?_
      refine rp 28 (.bool true) ?_
      refine Zad ?_
      refine Zab ?_
      refine Zac ?_
      refine Zai (fun _ => by kernel_rfl) ?_
      refine Zam ?_
      refine Zab ?_
      refine Zac ?_
      refine Zan ?_
      refine Zac ?_
      refine Zaa ?_
      refine rp 29 (.pointer (some ⟨g, 0, none⟩)) ?_
      refine rv 30 (.slice a n c) (fun _ => Zag 29 _ ⟨g, 0, none⟩ _ _ rfl (by kernel_rfl) (by rw [cell_of_row _ _ _ _ _ _ hL]; rfl) Tryz.underlying29 rfl) ?_
      refine rp 8 (.slice a n c) ?_
      refine Zad ?_
      refine Zab ?_
      refine Zaa ?_
      refine rp 31 (vP) ?_
      refine rp 32 (.slice a n c) ?_
      obtain ⟨v1, w9, hr9, ho9, hb9⟩ := Zld hO h1.ag (by simp; omega) hbv
      rw [List.nil_append] at ho9
      refine rw_v 33 v1 (fun _ => by kernel_rfl) (fun _ => Zpp hr9 _ _ rfl (by kernel_rfl) (by kernel_rfl)) ?_
      have hb9' : Below w.heap.size v' w9 := hb9.mono hwv
      replace h1 := h1.under hw1 hb9'
      replace h2 := h2.under hw2 hb9'
      replace hL := hL.under hgw hb9'
      replace hB : Bl w w9 := Below.trans hB hb9'
      refine rp 6 (v1) ?_
      refine Zad ?_
      refine Zau ?_
      refine Zab ?_
      refine Zaa ?_
      refine rp 34 (.int .i64 1) ?_
      refine rp 27 (.int .i64 1) ?_
      refine Zad ?_
      exact Za7 (E := fun x => [(27, .int .i64 ((x.1 : Nat) : Int)), (6, x.2), (25, .slice (some ⟨g, 0, none⟩) 2 2), (26, .int .i64 2)]) (R := fun x v' => (Sk K v' a n c p ∧ Sk K' v' a' n' c' q ∧ Rw g v' #[.slice a n c, .slice a' n' c'] 29 ∧ Bl w v') ∧ v.heap.size ≤ v'.heap.size ∧ ((x.1 = 0 ∧ OwnB v' v.heap.size x.2 []) ∨ (x.1 = 1 ∧ OwnB v' v.heap.size x.2 p) ∨ (x.1 = 2 ∧ OwnB v' v.heap.size x.2 (p ++ q)))) (μ := fun x => 2 - x.1) (x := (0, vP)) (1, v1) (by exact ⟨fun _ => by kernel_rfl, ⟨fun _ => by kernel_rfl, ⟨fun _ => by kernel_rfl, ⟨fun _ => by kernel_rfl, trivial⟩⟩⟩⟩) ⟨⟨h1, h2, hL, hB⟩, by have := hb9.size; omega, .inr (.inl ⟨rfl, ho9⟩)⟩ (by show 2 - 1 < 2 - 0; omega)
    · skip
      show CW _ _ _ _ _ _ _ [(27, .int .i64 1), (6, vP), (25, .slice (some ⟨g, 0, none⟩) 2 2), (26, .int .i64 2)] _
      refine Zac ?_
      refine Zaa ?_
      refine rp 28 (.bool true) ?_
      refine Zad ?_
      refine Zab ?_
      refine Zac ?_
      refine Zai (fun _ => by kernel_rfl) ?_
      refine Zam ?_
      refine Zab ?_
      refine Zac ?_
      refine Zan ?_
      refine Zac ?_
      refine Zaa ?_
      refine rp 29 (.pointer (some ⟨g, 1, none⟩)) ?_
      refine rv 30 (.slice a' n' c') (fun _ => Zag 29 _ ⟨g, 1, none⟩ _ _ rfl (by kernel_rfl) (by rw [cell_of_row _ _ _ _ _ _ hL]; rfl) Tryz.underlying29 rfl) ?_
      refine rp 8 (.slice a' n' c') ?_
      refine Zad ?_
      refine Zab ?_
      refine Zaa ?_
      refine rp 31 (vP) ?_
      refine rp 32 (.slice a' n' c') ?_
      obtain ⟨v1, w9, hr9, ho9, hb9⟩ := Zld hO h2.ag (by omega) hbv
      refine rw_v 33 v1 (fun _ => by kernel_rfl) (fun _ => Zpp hr9 _ _ rfl (by kernel_rfl) (by kernel_rfl)) ?_
      have hb9' : Below w.heap.size v' w9 := hb9.mono hwv
      replace h1 := h1.under hw1 hb9'
      replace h2 := h2.under hw2 hb9'
      replace hL := hL.under hgw hb9'
      replace hB : Bl w w9 := Below.trans hB hb9'
      refine rp 6 (v1) ?_
      refine Zad ?_
      refine Zau ?_
      refine Zab ?_
      refine Zaa ?_
      refine rp 34 (.int .i64 2) ?_
      refine rp 27 (.int .i64 2) ?_
      refine Zad ?_
      exact Za7 (E := fun x => [(27, .int .i64 ((x.1 : Nat) : Int)), (6, x.2), (25, .slice (some ⟨g, 0, none⟩) 2 2), (26, .int .i64 2)]) (R := fun x v' => (Sk K v' a n c p ∧ Sk K' v' a' n' c' q ∧ Rw g v' #[.slice a n c, .slice a' n' c'] 29 ∧ Bl w v') ∧ v.heap.size ≤ v'.heap.size ∧ ((x.1 = 0 ∧ OwnB v' v.heap.size x.2 []) ∨ (x.1 = 1 ∧ OwnB v' v.heap.size x.2 p) ∨ (x.1 = 2 ∧ OwnB v' v.heap.size x.2 (p ++ q)))) (μ := fun x => 2 - x.1) (x := (1, vP)) (2, v1) (by exact ⟨fun _ => by kernel_rfl, ⟨fun _ => by kernel_rfl, ⟨fun _ => by kernel_rfl, ⟨fun _ => by kernel_rfl, trivial⟩⟩⟩⟩) ⟨⟨h1, h2, hL, hB⟩, by have := hb9.size; omega, .inr (.inr ⟨rfl, ho9⟩)⟩ (by show 2 - 2 < 2 - 1; omega)
    · skip
      show CW _ _ _ _ _ _ _ [(27, .int .i64 2), (6, vP), (25, .slice (some ⟨g, 0, none⟩) 2 2), (26, .int .i64 2)] _
      refine Zac ?_
      refine Zaa ?_
      refine rp 28 (.bool false) ?_
      refine Zad ?_
      refine Zab ?_
      refine Zac ?_
      refine Zaf (fun _ => by kernel_rfl) ?_
      refine Zb1 ?_
      refine Zat ?_
      refine Zat ?_
      refine Za1 ?_
      refine Zab ?_
      refine Zac ?_
      refine Zaa ?_
      refine rp 35 (vP) ?_
      refine rp 2 (vP) ?_
      refine Zad ?_
      refine Zab ?_
      refine Zap ?_
      obtain ⟨a9, c9, rfl, hs9⟩ := hO.sk (K := fun b => w.heap.size ≤ b) (Zp2 h1.ag.b h2.ag.b) (fun b hb => by omega)
      exact Zae (.slice a9 (p ++ q).length c9) (fun _ => by kernel_rfl) ⟨_, rfl, _, _, _, rfl, hs9, hB⟩
section
variable {P : Program} {md : Region.Mode} {ops : Array Oper} {Q : Exit → Act → World → Prop} {S : World → Prop} {fuel : Nat} {listed : Array Bool} {a : Act} {w : World}
theorem Zay (i d : Nat) (v : Value) {o : Oper} (ho : ops[i]? = some o) (hd : o.dst = some d) (hs : Region.noSelect ops = true) (hf : Region.free md ops listed i = true) (hr : (Region.ready md ops listed).contains i = true)
    (hQ : ∀ c a w, Q (.panic c) (a.put o.dst v) w → Q (.panic c) a w) (hg : Region.wanted o (yielded ops a.tmps) = true) (hy : ∀ w, S w → (execOp a.eval o).run P w = .ok (.value v) w) (hS : S w)
    (h : wpAnyH P md ops Q S fuel (listed.setIfInBounds i true) (a.put (some d) v) w) : wpAnyH P md ops Q S (fuel + 1) listed a w :=
  wpAnyH_take ho hs hf hr hQ (Or.inl ⟨hg, hy⟩) hS (hd ▸ h)
theorem Zhu (i d : Nat) (v : Value) {rs : List Nat} {w' : World} {o : Oper} (ho : ops[i]? = some o) (hd : o.dst = some d) (hg : Region.wanted o (yielded ops a.tmps) = true) (hrun : (execOp a.eval o).run P w = .ok (.value v) w') (hS : S w')
    (h : wpAnyH P md ops Q S fuel (listed.setIfInBounds i true) (a.put (some d) v) w') (hs : AllReadyH P md ops Q S fuel listed a w rs) : AllReadyH P md ops Q S fuel listed a w (i :: rs) :=
  AllReadyH.cons ho (fun K hK => by
    rw [if_pos hg]
    unfold Oper.wp
    rw [hrun, Oper.upon_value]
    exact hK _ _ hS (fun _ => hd ▸ h)) hs
theorem Zdr (i d : Nat) {rs : List Nat} {o : Oper} (ho : ops[i]? = some o) (hd : o.dst = some d) (hg : Region.wanted o (yielded ops a.tmps) = true) (f : FuncId) (args : Array Value) (hrun : (execOp a.eval o).run P w = .ok (.enter f args) w)
    {R : Value → World → Prop} (hc : Calls P f args w fun e w' => ∃ v, e = .returned v ∧ R v w') (hSS : ∀ v w', R v w' → S w') (h : ∀ v w', R v w' → wpAnyH P md ops Q S fuel (listed.setIfInBounds i true) (a.put (some d) v) w')
    (hs : AllReadyH P md ops Q S fuel listed a w rs) : AllReadyH P md ops Q S fuel listed a w (i :: rs) :=
  AllReadyH.cons ho (fun K hK => by
    rw [if_pos hg]
    unfold Oper.wp
    rw [hrun, Oper.upon_enter]
    refine hc.mono ?_
    rintro e w' ⟨v, rfl, hR⟩
    exact hK _ _ (hSS v w' hR) (fun _ => hd ▸ h v w' hR)) hs
end
section
variable {a : Act} {w : World}
theorem Zik {x : Operand} {p : Addr} {v : Value} {o : Oper} (ho : o.op = .load 29 x) (hx : a.eval x = .pointer (some p)) (hc : w.cell? p = some v) : (execOp a.eval o).run Tryz.prog w = .ok (.value v) w := by
  unfold execOp
  rw [ho]
  simp only [hx]
  go_simp
theorem Zfy {x : Operand} {p : Addr} {v : Value} {o : Oper} (ho : o.op = .load 74 x) (hx : a.eval x = .pointer (some p)) (hc : w.cell? p = some v) : (execOp a.eval o).run Tryz.prog w = .ok (.value v) w := by
  unfold execOp
  rw [ho]
  simp only [hx]
  go_simp
theorem Zlw {x : Operand} {p : Addr} {v : Value} {o : Oper} (ho : o.op = .load 4 x) (hx : a.eval x = .pointer (some p)) (hc : w.cell? p = some v) : (execOp a.eval o).run Tryz.prog w = .ok (.value v) w := by
  unfold execOp
  rw [ho]
  simp only [hx]
  go_simp
theorem Zij {x : Operand} {g off : Nat} {v0 v1 v2 : Value} {o : Oper} (ho : o.op = .load 76 x) (hx : a.eval x = .pointer (some ⟨g, off, none⟩)) (h0 : w.cell? ⟨g, off, none⟩ = some v0) (h1 : w.cell? ⟨g, off + 1, none⟩ = some v1) (h2 : w.cell? ⟨g, off + 2, none⟩ = some v2) : (execOp a.eval o).run Tryz.prog w = .ok (.value (.agg #[v0, v1, v2])) w := by
  unfold execOp
  rw [ho]
  simp only [hx]
  go_simp
theorem Zil {x y : Operand} {g off j m c : Nat} {o : Oper} (ho : o.op = .indexAddr 74 x y) (hx : a.eval x = .slice (some ⟨g, off, none⟩) m c) (hy : a.eval y = .int .i64 j) (hj : j < m) : (execOp a.eval o).run Tryz.prog w = .ok (.value (.pointer (some ⟨g, off + j * 3, none⟩))) w := by
  have hji : (j : Int) < m := by omega
  unfold execOp
  rw [ho]
  simp only [hx, hy]
  go_simp
end
theorem below_go {w0 : World} (h : Below w0.heap.size w0 w) (hb : Below w.heap.size w w') : Below w0.heap.size w0 w' := h.trans (hb.mono h.size)
theorem Zaw (hb : Below w.heap.size w w') {o : Nat} {v : Value} (h : w.cell? ⟨g, o, none⟩ = some v) : w'.cell? ⟨g, o, none⟩ = some v := (hb.cell (p := ⟨g, o, none⟩) (block_lt_of_cell h)).trans h
theorem ag_nil (w : World) : Ag w none 0 0 [] := ⟨.inl ⟨rfl, rfl⟩, fun _ => ⟨rfl, rfl⟩, rfl, fun x hx => by cases hx⟩
structure B1 (g : Nat) (v : World) (y : V) : Prop where
  c0 : v.cell? ⟨g, 0, none⟩ = some (.bool y.l)
  c1 : v.cell? ⟨g, 1, none⟩ = some (.slice y.ba y.bn y.bc)
  c2 : v.cell? ⟨g, 2, none⟩ = some (.slice y.ia y.m y.ic)
theorem B1.go {v v' : World} (h : B1 g v y) (hb : Below v.heap.size v v') : B1 g v' y := ⟨Zaw hb h.c0, Zaw hb h.c1, Zaw hb h.c2⟩
theorem Zfs (w : World) (y : V) : B1 w.heap.size (w.alloc (.cells #[.bool y.l, .slice y.ba y.bn y.bc, .slice y.ia y.m y.ic] 76)) y := by
  have h := heap_alloc_new w (.cells #[.bool y.l, .slice y.ba y.bn y.bc, .slice y.ia y.m y.ic] 76)
  exact ⟨by rw [cell_of_row _ _ _ _ _ _ h]; rfl, by rw [cell_of_row _ _ _ _ _ _ h]; rfl, by rw [cell_of_row _ _ _ _ _ _ h]; rfl⟩
theorem below_new (w : World) (o : Obj) : Below w.heap.size w (w.alloc o) := (Below.refl _ _).alloc (Nat.le_refl _) _
theorem B1.alloc {v : World} (h : B1 g v y) (o : Obj) : B1 g (v.alloc o) y := h.go (below_new v o)
theorem Zmp {t : T} (h : (mP t).2 = 0) : encP t = (enc t, 0) := by unfold encP; rw [if_pos h]
theorem Zwf {t : T} (h : (mP t).2 ≠ 0) : encP t = ([], (mP t).2) := by unfold encP; rw [if_neg h]
theorem Zyh {t : T} (h : (mP t).2 = 0) : (enc t).length ≤ 16777220 := Zh3 (Zg4 h).2.1
end Go.Proofs.YtchgejomcgoaeaaGreat

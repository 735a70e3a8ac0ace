/- What digest.start answers, what Write of nothing does to a new Hash, and what digest.Of answers of nothing. -/
import Derived.Test.YtjpcfdhkgfaeeaaG05
import Derived.Test.YtjpcfdhkgfaeeaaG07
namespace Go.Proofs.Ytjpcfdhkgfaeeaa.Di
set_option maxRecDepth 100000
open Go.RowKit
set_option maxHeartbeats 400000 in
theorem start_any (w : World) : Calls Try.prog 41 #[] w fun e w' => (∃ a b c d, e = .returned (.agg #[.int .u64 a, .int .u64 b, .int .u64 c, .int .u64 d]) ∧ Hid (S4.mk a b c d = s0)) ∧ Below w.heap.size w w' := by
  go_enter Try.func41, Try.ntmps41
  go_wp2
  go_returns
  refine ⟨⟨_, _, _, _, rfl, rfl⟩, ?_⟩
  repeat' (first | refine Below.setCell ?_ (by simp <;> omega) _ | refine below_drewN ?_ _ | refine Below.alloc ?_ (by simp <;> omega) _ | exact Below.refl _ _)
set_option maxHeartbeats 400000 in
theorem write_nil (g : Nat) (a b c d : Int) (tl : List Int) (w : World) (hl : tl.length = 32) (hg : w.heap[g]? = some (.cells (HC ⟨a, b, c, d⟩ tl 0) 96)) :
    Calls Try.prog 42 #[.pointer (some ⟨g, 0, none⟩), .slice none 0 0] w fun e w' => e = .returned (.tuple #[]) ∧ w' = w.setCell ⟨g, 36, none⟩ (.int .i64 0) := by
  obtain ⟨c0, c1, c2, c3, c36, cf⟩ := cellsH hg hl
  clear hg
  go_enter Try.func42, Try.ntmps42
  go_wp2_with fail
  refine wp_loop_rounds 1 ?_
  rw [rounds_succ]
  go_wp2_with (first | (refine wpList_copy_nothing rfl _ _ 54 54 rfl 5 Try.underlying54 (by kernel_rfl) _ _ _ _ _ _ rfl rfl (by simp) ?_))
  go_end0
  exact ⟨rfl, rfl⟩
theorem HC_set0 (s : S4) (tl : List Int) (n m : Nat) (h : tl.length = 32) : (HC s tl n).setIfInBounds 36 (.int .i64 m) = HC s tl m := by
  have e : (#[Value.int .u64 s.a, Value.int .u64 s.b, Value.int .u64 s.c, Value.int .u64 s.d] ++ B8 tl).size = 36 := by simp [B8_size, h]
  unfold HC
  generalize (#[Value.int .u64 s.a, Value.int .u64 s.b, Value.int .u64 s.c, Value.int .u64 s.d] ++ B8 tl) = A at e ⊢
  apply Array.ext'
  rw [Array.toList_setIfInBounds, Array.toList_push, Array.toList_push, List.set_append_right _ _ (by simp [e])]
  simp [e]
theorem HC_zero (a b c d : Int) : HC ⟨a, b, c, d⟩ (List.replicate 32 0) 0 = #[.int .u64 a, .int .u64 b, .int .u64 c, .int .u64 d, .int .u8 0, .int .u8 0, .int .u8 0, .int .u8 0, .int .u8 0, .int .u8 0, .int .u8 0, .int .u8 0, .int .u8 0, .int .u8 0, .int .u8 0, .int .u8 0, .int .u8 0, .int .u8 0, .int .u8 0, .int .u8 0, .int .u8 0, .int .u8 0, .int .u8 0, .int .u8 0, .int .u8 0, .int .u8 0, .int .u8 0, .int .u8 0, .int .u8 0, .int .u8 0, .int .u8 0, .int .u8 0, .int .u8 0, .int .u8 0, .int .u8 0, .int .u8 0, .int .i64 0] := by kernel_rfl
theorem HC_one (s : S4) (tl : List Int) (n : Nat) : (HC s tl n).all (·.oneCell') = true := by
  simp [HC, B8, Value.oneCell']
/-- Of's blocks: the result, the Hash. -/
structure OfH (N g : Nat) (w0 w : World) (s : S4) (tl : List Int) (n : Nat) : Prop where
  h0 : w.heap[N]? = some (.cells (B8 (List.replicate 32 0)) 30)
  hg : w.heap[g]? = some (.cells (HC s tl n) 96)
  bel : Below N w0 w
  lt : N < g
set_option maxHeartbeats 1000000 in
theorem of_nil (w : World) : Calls Try.prog 31 #[.slice none 0 0] w fun e w' => e = .returned (.agg (B8 (dig (finS s0 (List.replicate 32 0) 0)))) ∧ Below w.heap.size w w' := by
  go_enter Try.func31, Try.ntmps31
  go_wp2_with fail
  refine (start_any _).mono ?_
  rintro e w1 ⟨⟨a, b, c, d, rfl, H⟩, hb1⟩
  have HI : Hid ((Try.prog.info? 96).map (·.size) = some (HC ⟨a, b, c, d⟩ (List.replicate 32 0) 0).size) := by unfold Hid; rw [HC_size]; kernel_rfl
  go_wp2_with (first | refine wpList_store_row rfl 96 _ _ rfl _ (HC ⟨a, b, c, d⟩ (List.replicate 32 0) 0) rfl (by rw [HC_zero]; rfl) 96 _ (heap_alloc_new w1 _) HI.out (by rw [HC_size]; rfl) (HC_one _ _ _) ?_)
  have hN : w1.heap[w.heap.size]? = some (.cells (B8 (List.replicate 32 0)) 30) := Below.row hb1 (heap_alloc_new w _)
  have l0 := lt_of_get hN
  have hb2 : Below w.heap.size w w1 := ((Below.refl _ _).alloc (Nat.le_refl _) _).trans (hb1.mono (by simp))
  clear hb1
  refine gen_w (p := fun v => Calls _ _ _ v _) (q := fun v => OfH w.heap.size w1.heap.size w v ⟨a, b, c, d⟩ (List.replicate 32 0) 0) ⟨?_, ?_, ?_, l0⟩ ?_
  · rw [setRow_other _ _ _ _ (by omega), Below.heap_alloc _ _ _ l0]; exact hN
  · exact setRow_heap _ _ _ _ _ _ (heap_alloc_new w1 _)
  · exact Below.setRow (hb2.alloc (by omega) _) (by omega) _
  clear hN hb2
  intro v F
  refine (write_nil _ a b c d _ v List.length_replicate F.hg).mono ?_
  rintro e v2 ⟨rfl, rfl⟩
  have F2 : OfH w.heap.size w1.heap.size w (v.setCell ⟨w1.heap.size, 36, none⟩ (.int .i64 0)) ⟨a, b, c, d⟩ (List.replicate 32 0) 0 := by
    refine ⟨(heap_setCell_other _ _ _ _ (by simp; omega)).trans F.h0, ?_, F.bel.setCell (by simp; omega) _, F.lt⟩
    have := heap_setCell_same v w1.heap.size 36 _ 96 (.int .i64 ((0 : Nat) : Int)) F.hg
    rw [HC_set0 _ _ _ _ List.length_replicate] at this
    exact this
  clear F
  go_wp2_with fail
  refine (sum_any _ a b c d _ 0 List.length_replicate zero_bounds (by omega) _ F2.hg).mono ?_
  rintro e v3 ⟨rfl, hb3⟩
  have h0 := Below.row hb3 F2.h0
  have hbel := F2.bel.trans (hb3.mono (by have := lt_of_get F2.h0; omega))
  rw [H.out]
  have HI2 : Hid ((Try.prog.info? 30).map (·.size) = some (B8 (dig (finS s0 (List.replicate 32 0) 0))).size) := by unfold Hid; rw [B8_size]; kernel_rfl
  have hdl : (dig (finS s0 (List.replicate 32 0) 0)).length = 32 := by simp [dig]
  generalize hds : dig (finS s0 (List.replicate 32 0) 0) = ds at HI2 hdl ⊢
  have HD := Hid.mk hds
  have HH := Hid.mk h0
  clear hds F2 h0 H hb3
  go_wp2_with (first | refine wpList_store_row rfl 30 _ _ rfl _ (B8 ds) rfl rfl 30 _ HH.out HI2.out (by rw [B8_size, B8_size, hdl, List.length_replicate]) (B8_one _) ?_)
  refine bodyPost_ret (results_cell_row Try.results31 _ _ w.heap.size 30 (B8 ds) (0, 0) _ rfl (setRow_heap _ _ _ _ _ _ HH.out) Try.underlying30 rfl HI2.out) rfl ?_
  exact ⟨by rw [HD.out], Below.setRow hbel (Nat.le_refl _) _⟩
end Go.Proofs.Ytjpcfdhkgfaeeaa.Di

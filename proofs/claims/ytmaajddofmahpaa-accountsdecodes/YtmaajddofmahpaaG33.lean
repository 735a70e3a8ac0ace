/- What the program's Decode of accounts answers. -/
import Derived.Test.YtmaajddofmahpaaG32
import Derived.Test.YtmaajddofmahpaaG22
namespace Go.Proofs.Ytmaajddofmahpaa
open Go.RowKit
open Di (dref)
set_option linter.unusedVariables false
set_option maxRecDepth 100000
theorem wword {w : World} {t : T} {y : V} (h : Lies w t y) : Calls Try.prog 45 #[.agg (IV y)] w fun e w' => ∃ v, e = .returned v ∧ RVl w (.tuple #[.int .u64 (((wp4 t).1 : Nat) : Int), .bool (wp4 t).2]) v w' := by
  obtain ⟨hl, hag, _, hn, _⟩ := lies_un h
  unfold wp4
  have hB : Bl w w := Bl.refl w
  refine cw_enter Try.func45 rfl 11 rfl ?_
  show CW _ _ _ _ _ _ _ [(0, .agg (IV y))] _
  refine cw_seq ?_
  refine cw_region ?_
  refine rw_new 1 (IV y) 46 (fun _ => by kernel_rfl) (fun _ => by kernel_rfl) ?_
  intro w1 g2 hn3
  have hzg2 : w.heap.size ≤ g2 := by have := hB.size; have := hn3.hg; omega
  replace hB := hB.go hn3.below
  replace hag := hag.go hn3.below
  have hr4 : Rw g2 w1 (IV y) 46 := hn3.row
  refine rp 2 (.int .u64 0) ?_
  refine rp 3 (.bool false) ?_
  refine rw_nil ?_
  refine nw_then ?_
  refine cw_seq ?_
  refine cw_seq ?_
  refine cw_region ?_
  refine rp 4 (.pointer (some ⟨g2, 0, none⟩)) ?_
  refine rv 5 (.bool y.l) (fun _ => ol_cell 4 _ ⟨g2, 0, none⟩ _ _ rfl (by kernel_rfl) (by rw [cell_of_row _ _ _ _ _ _ hr4]; rfl) Try.underlying4 rfl) ?_
  refine rw_nil ?_
  refine nw_then ?_
  cases hq5 : (y.l) with
  | true =>
    refine cw_cond_t (fun _ => by kernel_rfl) ?_
    refine cw_seq ?_
    refine cw_region ?_
    refine rp 2 (.int .u64 0) ?_
    refine rp 3 (.bool false) ?_
    refine rw_nil ?_
    refine nw_then ?_
    refine cw_ret ?_
    refine nw_ret_then ?_
    refine nw_ret_body (.tuple #[.int .u64 0, .bool false]) (fun _ => by kernel_rfl) ?_
    have e : t.l = true := by rw [← hl]; exact hq5
    refine ⟨_, rfl, ?_, hB⟩
    rw [e]
    rfl
  | false =>
    refine cw_cond_f (fun _ => by kernel_rfl) ?_
    refine cw_skip ?_
    refine nw_then ?_
    refine cw_seq ?_
    refine cw_region ?_
    refine rp 6 (.pointer (some ⟨g2, 1, none⟩)) ?_
    refine rv 7 (.slice y.ba y.bn y.bc) (fun _ => ol_cell 29 _ ⟨g2, 1, none⟩ _ _ rfl (by kernel_rfl) (by rw [cell_of_row _ _ _ _ _ _ hr4]; rfl) Try.underlying29 rfl) ?_
    refine rw_call 8 33 #[.slice y.ba y.bn y.bc] (fun _ => by kernel_rfl) (fun _ => by kernel_rfl) (R := RVl w1 (.tuple #[.int .u64 (((Wo.rdP t.bs).1 : Nat) : Int), .bool (Wo.rdP t.bs).2])) (wread hag hn) ?_
    rintro _ w6 ⟨rfl, hb7⟩
    replace hB := hB.go hb7
    replace hag := hag.go hb7
    replace hr4 := hr4.go hb7
    refine rp 9 (.int .u64 (((Wo.rdP t.bs).1 : Nat) : Int)) ?_
    refine rp 10 (.bool (Wo.rdP t.bs).2) ?_
    refine rp 2 (.int .u64 (((Wo.rdP t.bs).1 : Nat) : Int)) ?_
    refine rp 3 (.bool (Wo.rdP t.bs).2) ?_
    refine rw_nil ?_
    refine nw_then ?_
    refine cw_ret ?_
    refine nw_ret_body (.tuple #[.int .u64 (((Wo.rdP t.bs).1 : Nat) : Int), .bool (Wo.rdP t.bs).2]) (fun _ => by kernel_rfl) ?_
    have e : t.l = false := by rw [← hl]; exact hq5
    refine ⟨_, rfl, ?_, hB⟩
    rw [e]
    rfl
theorem wdig {w : World} {t : T} {y : V} (h : Lies w t y) : Calls Try.prog 46 #[.agg (IV y)] w fun e w' => ∃ v, e = .returned v ∧ RVl w (.tuple #[.agg (B8 (dp4 t).1), .bool (dp4 t).2]) v w' := by
  obtain ⟨hl, hag, _, hn, _⟩ := lies_un h
  have hll := hag.l
  unfold dp4
  have hB : Bl w w := Bl.refl w
  refine cw_enter Try.func46 rfl 15 rfl ?_
  show CW _ _ _ _ _ _ _ [(0, .agg (IV y))] _
  refine cw_seq ?_
  refine cw_region ?_
  refine rw_new 1 (IV y) 46 (fun _ => by kernel_rfl) (fun _ => by kernel_rfl) ?_
  intro w1 g2 hn3
  have hzg2 : w.heap.size ≤ g2 := by have := hB.size; have := hn3.hg; omega
  replace hB := hB.go hn3.below
  replace hag := hag.go hn3.below
  have hr4 : Rw g2 w1 (IV y) 46 := hn3.row
  refine rw_new 2 (B8 z32) 24 (fun _ => by kernel_rfl) (fun _ => by kernel_rfl) ?_
  intro w5 g6 hn7
  have hlg2g6 : g2 < g6 := by have := hr4.lt; have := hn7.hg; omega
  have hzg6 : w.heap.size ≤ g6 := by have := hB.size; have := hn7.hg; omega
  replace hB := hB.go hn7.below
  replace hag := hag.go hn7.below
  replace hr4 := hr4.go hn7.below
  have hr8 : Rw g6 w5 (B8 z32) 24 := hn7.row
  refine rp 3 (.bool false) ?_
  refine rw_nil ?_
  refine nw_then ?_
  refine cw_seq ?_
  refine cw_region ?_
  refine rw_new 4 (B8 z32) 24 (fun _ => by kernel_rfl) (fun _ => by kernel_rfl) ?_
  intro w9 g10 hn11
  have hlg2g10 : g2 < g10 := by have := hr4.lt; have := hn11.hg; omega
  have hlg6g10 : g6 < g10 := by have := hr8.lt; have := hn11.hg; omega
  have hzg10 : w.heap.size ≤ g10 := by have := hB.size; have := hn11.hg; omega
  replace hB := hB.go hn11.below
  replace hag := hag.go hn11.below
  replace hr4 := hr4.go hn11.below
  replace hr8 := hr8.go hn11.below
  have hr12 : Rw g10 w9 (B8 z32) 24 := hn11.row
  refine rw_nil ?_
  refine nw_then ?_
  refine cw_seq ?_
  refine cw_seq ?_
  refine cw_region ?_
  refine rp 5 (.pointer (some ⟨g2, 1, none⟩)) ?_
  refine rv 6 (.slice y.ba y.bn y.bc) (fun _ => ol_cell 29 _ ⟨g2, 1, none⟩ _ _ rfl (by kernel_rfl) (by rw [cell_of_row _ _ _ _ _ _ hr4]; rfl) Try.underlying29 rfl) ?_
  refine rp 7 (.int .i64 y.bn) ?_
  refine rp 8 (.bool (!((y.bn : Int) == (32 : Int)))) ?_
  refine rw_nil ?_
  refine nw_then ?_
  cases hq13 : (!((y.bn : Int) == (32 : Int))) with
  | true =>
    have e32 : ¬ t.bs.length = 32 := by rw [Bool.not_eq_true', beq_eq_false_iff_ne] at hq13; omega
    refine cw_cond_t (fun _ => by kernel_rfl) ?_
    refine cw_seq ?_
    refine cw_region ?_
    refine rp 9 (.agg (B8 z32)) ?_
    refine rw_put g6 (B8 z32) (fun _ => by kernel_rfl) (fun _ => ol_store 24 _ _ _ _ _ 24 rfl (by kernel_rfl) (by kernel_rfl) hr8 (infoD' (show z32.length = 32 from rfl)) ((B8_size _).trans ((show z32.length = 32 from rfl).trans ((show z32.length = 32 from rfl).symm.trans (B8_size _).symm))) (B8_one _)) ?_
    intro w14 hp15
    replace hB := hB.put hp15 hzg6
    replace hr4 := hr4.past hp15 (by omega)
    replace hr8 := hr8.put hp15
    replace hr12 := hr12.past hp15 (by omega)
    refine rp 3 (.bool false) ?_
    refine rw_nil ?_
    refine nw_then ?_
    refine cw_ret ?_
    refine nw_ret_then ?_
    refine nw_ret_body (.tuple #[.agg (B8 z32), .bool false]) (fun _ => res_c2 rfl _ g6 _ _ (by kernel_rfl) (by kernel_rfl) hr8 Try.underlying24 rfl (infoD' (show z32.length = 32 from rfl))) ?_
    refine ⟨_, rfl, ?_, hB⟩
    rw [if_neg e32]
  | false =>
    have e32 : t.bs.length = 32 := by rw [Bool.not_eq_false', beq_iff_eq] at hq13; omega
    refine cw_cond_f (fun _ => by kernel_rfl) ?_
    refine cw_skip ?_
    refine nw_then ?_
    refine cw_seq ?_
    refine cw_draw (fun v => Rw g2 v (IV y) 46) (by kernel_rfl) (hr4) ?_
    replace hB := hB.go (Below.refl _ _).drew
    replace hag := hag.go (Below.refl _ _).drew
    replace hr4 := hr4.go (Below.refl _ _).drew
    replace hr8 := hr8.go (Below.refl _ _).drew
    replace hr12 := hr12.go (Below.refl _ _).drew
    refine dt 0 10 (.slice (some ⟨g10, 0, none⟩) 32 32) (fun v hv => (fun _ => by kernel_rfl)) hr4 ?_
    refine dt 1 11 (.pointer (some ⟨g2, 1, none⟩)) (fun v hv _ => by kernel_rfl) hr4 ?_
    refine dt 2 12 (.slice y.ba y.bn y.bc) (fun v hv _ => ol_cell 29 _ ⟨g2, 1, none⟩ _ _ rfl (by kernel_rfl) (by rw [cell_of_row _ _ _ _ _ _ hv]; rfl) Try.underlying29 rfl) hr4 ?_
    refine dw_ready [3] (by kernel_rfl) (by simp) ?_
    obtain ⟨w16, hrun17, hp18⟩ := copy_dign (by omega) hr12 rfl hag
    refine ar_v 3 13 (.int .i64 32) rfl (fun _ => by kernel_rfl) (fun _ => ol_copy hrun17 _ _ rfl (by kernel_rfl) (by kernel_rfl)) (hr4.past hp18 (by omega)) ?_ ar_nil
    replace hB := hB.put hp18 hzg10
    replace hr4 := hr4.past hp18 (by omega)
    replace hr8 := hr8.past hp18 (by omega)
    replace hr12 := hr12.put hp18
    refine dw_done (by kernel_rfl) ?_
    refine nw_then ?_
    refine cw_seq ?_
    refine cw_region ?_
    refine rv 14 (.agg (B8 t.bs)) (fun _ => ol_row 24 _ _ _ _ _ _ rfl (by kernel_rfl) hr12 Try.underlying24 rfl (infoD' e32)) ?_
    refine rw_put g6 (B8 t.bs) (fun _ => by kernel_rfl) (fun _ => ol_store 24 _ _ _ _ _ 24 rfl (by kernel_rfl) (by kernel_rfl) hr8 (infoD' e32) ((B8_size _).trans ((show z32.length = 32 from rfl).trans (e32.symm.trans (B8_size _).symm))) (B8_one _)) ?_
    intro w19 hp20
    replace hB := hB.put hp20 hzg6
    replace hr4 := hr4.past hp20 (by omega)
    replace hr8 := hr8.put hp20
    replace hr12 := hr12.past hp20 (by omega)
    refine rp 3 (.bool true) ?_
    refine rw_nil ?_
    refine nw_then ?_
    refine cw_ret ?_
    refine nw_ret_body (.tuple #[.agg (B8 t.bs), .bool true]) (fun _ => res_c2 rfl _ g6 _ _ (by kernel_rfl) (by kernel_rfl) hr8 Try.underlying24 rfl (infoD' e32)) ?_
    refine ⟨_, rfl, ?_, hB⟩
    rw [if_pos e32]
theorem waccn {w : World} {t : T} {y : V} (h : Lies w t y) (h4 : y.m ≠ 4) : Calls Try.prog 29 #[.agg (IV y)] w fun e w' => ∃ v, e = .returned v ∧ RVl w (.tuple #[.agg (AV ((acB t).getD zA)).toArray, .bool (acB t).isSome]) v w' := by
  obtain ⟨_, _, hm, _, _⟩ := lies_un h
  have e : acB t = none := by
    unfold acB
    split
    · rename_i hi; rw [hi] at hm; simp at hm; omega
    · rfl
  rw [e]
  have hB : Bl w w := Bl.refl w
  refine cw_enter Try.func29 rfl 69 rfl ?_
  show CW _ _ _ _ _ _ _ [(0, .agg (IV y))] _
  refine cw_seq ?_
  refine cw_region ?_
  refine rw_new 1 (IV y) 46 (fun _ => by kernel_rfl) (fun _ => by kernel_rfl) ?_
  intro w1 g2 hn3
  have hzg2 : w.heap.size ≤ g2 := by have := hB.size; have := hn3.hg; omega
  replace hB := hB.go hn3.below
  have hr4 : Rw g2 w1 (IV y) 46 := hn3.row
  refine rw_new 2 ((AV zA).toArray) 26 (fun _ => by kernel_rfl) (fun _ => by kernel_rfl) ?_
  intro w5 g6 hn7
  have hlg2g6 : g2 < g6 := by have := hr4.lt; have := hn7.hg; omega
  have hzg6 : w.heap.size ≤ g6 := by have := hB.size; have := hn7.hg; omega
  replace hB := hB.go hn7.below
  replace hr4 := hr4.go hn7.below
  have hr8 : Rw g6 w5 ((AV zA).toArray) 26 := hn7.row
  refine rp 3 (.bool false) ?_
  refine rw_nil ?_
  refine nw_then ?_
  refine cw_seq ?_
  refine cw_seq ?_
  refine cw_region ?_
  refine rp 12 (.pointer (some ⟨g2, 2, none⟩)) ?_
  refine rv 13 (.slice y.ia y.m y.ic) (fun _ => ol_cell 44 _ ⟨g2, 2, none⟩ _ _ rfl (by kernel_rfl) (by rw [cell_of_row _ _ _ _ _ _ hr4]; rfl) Try.underlying44 rfl) ?_
  refine rp 14 (.int .i64 y.m) ?_
  refine rv 15 (.bool true) (fun _ => ol_conv (v := .bool (!((y.m : Int) == (4 : Int)))) (by kernel_rfl) (congrArg Value.bool (by rw [Bool.not_eq_true', beq_eq_false_iff_ne]; omega))) ?_
  refine rw_nil ?_
  refine nw_then ?_
  refine cw_cond_t (fun _ => by kernel_rfl) ?_
  refine cw_seq ?_
  refine cw_region ?_
  refine rv 16 (.agg (AV zA).toArray) (fun _ => ol_build 26 _ rfl [] (by kernel_rfl) _ built_Az) ?_
  refine rw_put g6 ((AV zA).toArray) (fun _ => by kernel_rfl) (fun _ => ol_store 26 _ _ _ _ _ 26 rfl (by kernel_rfl) (by kernel_rfl) hr8 (infoA zA_ok) (AV_size zA_ok zA_ok) (AV_one _)) ?_
  intro w9 hp10
  replace hB := hB.put hp10 hzg6
  replace hr4 := hr4.past hp10 (by omega)
  replace hr8 := hr8.put hp10
  refine rp 3 (.bool false) ?_
  refine rw_nil ?_
  refine nw_then ?_
  refine cw_ret ?_
  refine nw_ret_then ?_
  refine nw_ret_body (.tuple #[.agg ((AV zA).toArray), .bool false]) (fun _ => res_c2 rfl _ g6 _ _ (by kernel_rfl) (by kernel_rfl) hr8 Try.underlying26 rfl (infoA zA_ok)) ?_
  exact ⟨_, rfl, rfl, hB⟩
set_option maxHeartbeats 1000000 in
theorem wacc4 {w : World} {t : T} {yl : Bool} {yba : Option Addr} {ybn ybc g off yic : Nat} {x0 x1 x2 x3 : T} {y0 y1 y2 y3 : V} (hi : t.its = [x0, x1, x2, x3]) (r0 : w.rangeAt g (off + 0 * 3) (IL y0)) (r1 : w.rangeAt g (off + 1 * 3) (IL y1)) (r2 : w.rangeAt g (off + 2 * 3) (IL y2)) (r3 : w.rangeAt g (off + 3 * 3) (IL y3)) (L0 : Lies w x0 y0) (L1 : Lies w x1 y1) (L2 : Lies w x2 y2) (L3 : Lies w x3 y3) : Calls Try.prog 29 #[.agg #[.bool yl, .slice yba ybn ybc, .slice (some ⟨g, off, none⟩) 4 yic]] w fun e w' => ∃ v, e = .returned v ∧ RVl w (.tuple #[.agg (AV ((acB t).getD zA)).toArray, .bool (acB t).isSome]) v w' := by
  have hok := acc_ok L0 L1 L2 L3
  have hB : Bl w w := Bl.refl w
  refine cw_enter Try.func29 rfl 69 rfl ?_
  show CW _ _ _ _ _ _ _ [(0, .agg #[.bool yl, .slice yba ybn ybc, .slice (some ⟨g, off, none⟩) 4 yic])] _
  refine cw_seq ?_
  refine cw_region ?_
  refine rw_new 1 (#[.bool yl, .slice yba ybn ybc, .slice (some ⟨g, off, none⟩) 4 yic]) 46 (fun _ => by kernel_rfl) (fun _ => by kernel_rfl) ?_
  intro w1 g2 hn3
  have hzg2 : w.heap.size ≤ g2 := by have := hB.size; have := hn3.hg; omega
  replace hB := hB.go hn3.below
  replace r0 := range_go r0 hn3.below
  replace L0 := lies_mono hn3.below _ _ L0
  replace r1 := range_go r1 hn3.below
  replace L1 := lies_mono hn3.below _ _ L1
  replace r2 := range_go r2 hn3.below
  replace L2 := lies_mono hn3.below _ _ L2
  replace r3 := range_go r3 hn3.below
  replace L3 := lies_mono hn3.below _ _ L3
  have hr4 : Rw g2 w1 (#[.bool yl, .slice yba ybn ybc, .slice (some ⟨g, off, none⟩) 4 yic]) 46 := hn3.row
  refine rw_new 2 ((AV zA).toArray) 26 (fun _ => by kernel_rfl) (fun _ => by kernel_rfl) ?_
  intro w5 g6 hn7
  have hlg2g6 : g2 < g6 := by have := hr4.lt; have := hn7.hg; omega
  have hzg6 : w.heap.size ≤ g6 := by have := hB.size; have := hn7.hg; omega
  replace hB := hB.go hn7.below
  replace r0 := range_go r0 hn7.below
  replace L0 := lies_mono hn7.below _ _ L0
  replace r1 := range_go r1 hn7.below
  replace L1 := lies_mono hn7.below _ _ L1
  replace r2 := range_go r2 hn7.below
  replace L2 := lies_mono hn7.below _ _ L2
  replace r3 := range_go r3 hn7.below
  replace L3 := lies_mono hn7.below _ _ L3
  replace hr4 := hr4.go hn7.below
  have hr8 : Rw g6 w5 ((AV zA).toArray) 26 := hn7.row
  refine rp 3 (.bool false) ?_
  refine rw_nil ?_
  refine nw_then ?_
  refine cw_seq ?_
  refine cw_seq ?_
  refine cw_region ?_
  refine rp 12 (.pointer (some ⟨g2, 2, none⟩)) ?_
  refine rv 13 (.slice (some ⟨g, off, none⟩) 4 yic) (fun _ => ol_cell 44 _ ⟨g2, 2, none⟩ _ _ rfl (by kernel_rfl) (by rw [cell_of_row _ _ _ _ _ _ hr4]; rfl) Try.underlying44 rfl) ?_
  refine rp 14 (.int .i64 4) ?_
  refine rp 15 (.bool false) ?_
  refine rw_nil ?_
  refine nw_then ?_
  refine cw_cond_f (fun _ => by kernel_rfl) ?_
  refine cw_skip ?_
  refine nw_then ?_
  refine cw_seq ?_
  refine cw_region ?_
  refine rp 18 (.pointer (some ⟨g2, 2, none⟩)) ?_
  refine rv 19 (.slice (some ⟨g, off, none⟩) 4 yic) (fun _ => ol_cell 44 _ ⟨g2, 2, none⟩ _ _ rfl (by kernel_rfl) (by rw [cell_of_row _ _ _ _ _ _ hr4]; rfl) Try.underlying44 rfl) ?_
  refine rv 20 (.pointer (some ⟨g, off + 0 * 3, none⟩)) (fun _ => ol_index 44 _ _ g off 0 4 yic 3 46 rfl (by kernel_rfl) (by kernel_rfl) (by omega) Try.underlying44 (by kernel_rfl)) ?_
  refine rv 21 (.agg (IV y0)) (fun _ => ol_mid 46 _ g (off + 0 * 3) (IL y0) _ rfl (by kernel_rfl) r0 Try.underlying46 rfl (by kernel_rfl)) ?_
  refine rw_call 22 45 #[.agg (IV y0)] (fun _ => by kernel_rfl) (fun _ => by kernel_rfl) (R := RVl w5 (.tuple #[.int .u64 (((wp4 x0).1 : Nat) : Int), .bool (wp4 x0).2])) (wword L0) ?_
  rintro _ w9 ⟨rfl, hb10⟩
  replace hB := hB.go hb10
  replace r0 := range_go r0 hb10
  replace L0 := lies_mono hb10 _ _ L0
  replace r1 := range_go r1 hb10
  replace L1 := lies_mono hb10 _ _ L1
  replace r2 := range_go r2 hb10
  replace L2 := lies_mono hb10 _ _ L2
  replace r3 := range_go r3 hb10
  replace L3 := lies_mono hb10 _ _ L3
  replace hr4 := hr4.go hb10
  replace hr8 := hr8.go hb10
  refine rp 17 (.tuple #[.int .u64 (((wp4 x0).1 : Nat) : Int), .bool (wp4 x0).2]) ?_
  refine rp 23 (.int .u64 (((wp4 x0).1 : Nat) : Int)) ?_
  refine rp 24 (.bool (wp4 x0).2) ?_
  refine rp 4 (.int .u64 (((wp4 x0).1 : Nat) : Int)) ?_
  refine rp 5 (.bool (wp4 x0).2) ?_
  refine rw_nil ?_
  refine nw_then ?_
  refine cw_seq ?_
  refine cw_region ?_
  refine rp 26 (.pointer (some ⟨g2, 2, none⟩)) ?_
  refine rv 27 (.slice (some ⟨g, off, none⟩) 4 yic) (fun _ => ol_cell 44 _ ⟨g2, 2, none⟩ _ _ rfl (by kernel_rfl) (by rw [cell_of_row _ _ _ _ _ _ hr4]; rfl) Try.underlying44 rfl) ?_
  refine rv 28 (.pointer (some ⟨g, off + 1 * 3, none⟩)) (fun _ => ol_index 44 _ _ g off 1 4 yic 3 46 rfl (by kernel_rfl) (by kernel_rfl) (by omega) Try.underlying44 (by kernel_rfl)) ?_
  refine rv 29 (.agg (IV y1)) (fun _ => ol_mid 46 _ g (off + 1 * 3) (IL y1) _ rfl (by kernel_rfl) r1 Try.underlying46 rfl (by kernel_rfl)) ?_
  refine rw_call 30 45 #[.agg (IV y1)] (fun _ => by kernel_rfl) (fun _ => by kernel_rfl) (R := RVl w9 (.tuple #[.int .u64 (((wp4 x1).1 : Nat) : Int), .bool (wp4 x1).2])) (wword L1) ?_
  rintro _ w11 ⟨rfl, hb12⟩
  replace hB := hB.go hb12
  replace r0 := range_go r0 hb12
  replace L0 := lies_mono hb12 _ _ L0
  replace r1 := range_go r1 hb12
  replace L1 := lies_mono hb12 _ _ L1
  replace r2 := range_go r2 hb12
  replace L2 := lies_mono hb12 _ _ L2
  replace r3 := range_go r3 hb12
  replace L3 := lies_mono hb12 _ _ L3
  replace hr4 := hr4.go hb12
  replace hr8 := hr8.go hb12
  refine rp 25 (.tuple #[.int .u64 (((wp4 x1).1 : Nat) : Int), .bool (wp4 x1).2]) ?_
  refine rp 31 (.int .u64 (((wp4 x1).1 : Nat) : Int)) ?_
  refine rp 32 (.bool (wp4 x1).2) ?_
  refine rp 6 (.int .u64 (((wp4 x1).1 : Nat) : Int)) ?_
  refine rp 7 (.bool (wp4 x1).2) ?_
  refine rw_nil ?_
  refine nw_then ?_
  refine cw_seq ?_
  refine cw_region ?_
  refine rp 34 (.pointer (some ⟨g2, 2, none⟩)) ?_
  refine rv 35 (.slice (some ⟨g, off, none⟩) 4 yic) (fun _ => ol_cell 44 _ ⟨g2, 2, none⟩ _ _ rfl (by kernel_rfl) (by rw [cell_of_row _ _ _ _ _ _ hr4]; rfl) Try.underlying44 rfl) ?_
  refine rv 36 (.pointer (some ⟨g, off + 2 * 3, none⟩)) (fun _ => ol_index 44 _ _ g off 2 4 yic 3 46 rfl (by kernel_rfl) (by kernel_rfl) (by omega) Try.underlying44 (by kernel_rfl)) ?_
  refine rv 37 (.agg (IV y2)) (fun _ => ol_mid 46 _ g (off + 2 * 3) (IL y2) _ rfl (by kernel_rfl) r2 Try.underlying46 rfl (by kernel_rfl)) ?_
  refine rw_call 38 46 #[.agg (IV y2)] (fun _ => by kernel_rfl) (fun _ => by kernel_rfl) (R := RVl w11 (.tuple #[.agg (B8 (dp4 x2).1), .bool (dp4 x2).2])) (wdig L2) ?_
  rintro _ w13 ⟨rfl, hb14⟩
  replace hB := hB.go hb14
  replace r0 := range_go r0 hb14
  replace L0 := lies_mono hb14 _ _ L0
  replace r1 := range_go r1 hb14
  replace L1 := lies_mono hb14 _ _ L1
  replace r2 := range_go r2 hb14
  replace L2 := lies_mono hb14 _ _ L2
  replace r3 := range_go r3 hb14
  replace L3 := lies_mono hb14 _ _ L3
  replace hr4 := hr4.go hb14
  replace hr8 := hr8.go hb14
  refine rp 33 (.tuple #[.agg (B8 (dp4 x2).1), .bool (dp4 x2).2]) ?_
  refine rp 39 (.agg (B8 (dp4 x2).1)) ?_
  refine rp 40 (.bool (dp4 x2).2) ?_
  refine rw_new 8 (B8 z32) 24 (fun _ => by kernel_rfl) (fun _ => by kernel_rfl) ?_
  intro w15 g16 hn17
  have hr18 : Rw g16 w15 (B8 z32) 24 := hn17.row
  refine rw_put g16 (B8 (dp4 x2).1) (fun _ => by kernel_rfl) (fun _ => ol_store 24 _ _ _ _ _ 24 rfl (by kernel_rfl) (by kernel_rfl) hr18 (infoD' (dp_len _)) ((B8_size _).trans ((show z32.length = 32 from rfl).trans ((dp_len _).symm.trans (B8_size _).symm))) (B8_one _)) ?_
  intro w19 hp20
  have hbg16 : Below w13.heap.size w13 w19 := hp20.below hn17.below (Nat.le_of_eq hn17.hg.symm) (by have := hn17.size; have := hn17.hg; omega)
  have hzg16 : w.heap.size ≤ g16 := by have := hB.size; have := hn17.hg; omega
  replace hB := hB.go hbg16
  replace r0 := range_go r0 hbg16
  replace L0 := lies_mono hbg16 _ _ L0
  replace r1 := range_go r1 hbg16
  replace L1 := lies_mono hbg16 _ _ L1
  replace r2 := range_go r2 hbg16
  replace L2 := lies_mono hbg16 _ _ L2
  replace r3 := range_go r3 hbg16
  replace L3 := lies_mono hbg16 _ _ L3
  replace hr4 := hr4.go hbg16
  replace hr8 := hr8.go hbg16
  have hr21 : Rw g16 w19 (B8 (dp4 x2).1) 24 := hr18.put hp20
  refine rp 9 (.bool (dp4 x2).2) ?_
  refine rw_nil ?_
  refine nw_then ?_
  refine cw_seq ?_
  refine cw_region ?_
  refine rp 42 (.pointer (some ⟨g2, 2, none⟩)) ?_
  refine rv 43 (.slice (some ⟨g, off, none⟩) 4 yic) (fun _ => ol_cell 44 _ ⟨g2, 2, none⟩ _ _ rfl (by kernel_rfl) (by rw [cell_of_row _ _ _ _ _ _ hr4]; rfl) Try.underlying44 rfl) ?_
  refine rv 44 (.pointer (some ⟨g, off + 3 * 3, none⟩)) (fun _ => ol_index 44 _ _ g off 3 4 yic 3 46 rfl (by kernel_rfl) (by kernel_rfl) (by omega) Try.underlying44 (by kernel_rfl)) ?_
  refine rv 45 (.agg (IV y3)) (fun _ => ol_mid 46 _ g (off + 3 * 3) (IL y3) _ rfl (by kernel_rfl) r3 Try.underlying46 rfl (by kernel_rfl)) ?_
  refine rw_call 46 46 #[.agg (IV y3)] (fun _ => by kernel_rfl) (fun _ => by kernel_rfl) (R := RVl w19 (.tuple #[.agg (B8 (dp4 x3).1), .bool (dp4 x3).2])) (wdig L3) ?_
  rintro _ w22 ⟨rfl, hb23⟩
  replace hB := hB.go hb23
  replace r0 := range_go r0 hb23
  replace L0 := lies_mono hb23 _ _ L0
  replace r1 := range_go r1 hb23
  replace L1 := lies_mono hb23 _ _ L1
  replace r2 := range_go r2 hb23
  replace L2 := lies_mono hb23 _ _ L2
  replace r3 := range_go r3 hb23
  replace L3 := lies_mono hb23 _ _ L3
  replace hr4 := hr4.go hb23
  replace hr8 := hr8.go hb23
  replace hr21 := hr21.go hb23
  refine rp 41 (.tuple #[.agg (B8 (dp4 x3).1), .bool (dp4 x3).2]) ?_
  refine rp 47 (.agg (B8 (dp4 x3).1)) ?_
  refine rp 48 (.bool (dp4 x3).2) ?_
  refine rw_new 10 (B8 z32) 24 (fun _ => by kernel_rfl) (fun _ => by kernel_rfl) ?_
  intro w24 g25 hn26
  have hr27 : Rw g25 w24 (B8 z32) 24 := hn26.row
  refine rw_put g25 (B8 (dp4 x3).1) (fun _ => by kernel_rfl) (fun _ => ol_store 24 _ _ _ _ _ 24 rfl (by kernel_rfl) (by kernel_rfl) hr27 (infoD' (dp_len _)) ((B8_size _).trans ((show z32.length = 32 from rfl).trans ((dp_len _).symm.trans (B8_size _).symm))) (B8_one _)) ?_
  intro w28 hp29
  have hbg25 : Below w22.heap.size w22 w28 := hp29.below hn26.below (Nat.le_of_eq hn26.hg.symm) (by have := hn26.size; have := hn26.hg; omega)
  have hzg25 : w.heap.size ≤ g25 := by have := hB.size; have := hn26.hg; omega
  replace hB := hB.go hbg25
  replace r0 := range_go r0 hbg25
  replace L0 := lies_mono hbg25 _ _ L0
  replace r1 := range_go r1 hbg25
  replace L1 := lies_mono hbg25 _ _ L1
  replace r2 := range_go r2 hbg25
  replace L2 := lies_mono hbg25 _ _ L2
  replace r3 := range_go r3 hbg25
  replace L3 := lies_mono hbg25 _ _ L3
  replace hr4 := hr4.go hbg25
  replace hr8 := hr8.go hbg25
  replace hr21 := hr21.go hbg25
  have hr30 : Rw g25 w28 (B8 (dp4 x3).1) 24 := hr27.put hp29
  refine rp 11 (.bool (dp4 x3).2) ?_
  refine rw_nil ?_
  refine nw_then ?_
  refine cw_seq ?_
  refine cw_seq ?_
  refine cw_region ?_
  refine rp 49 (.bool (wp4 x0).2) ?_
  refine rp 50 (.bool (!((wp4 x0).2))) ?_
  refine rp 51 (.bool (!((wp4 x0).2))) ?_
  cases hq31 : (!((wp4 x0).2)) with
  | true =>
    refine rw_off 52 (fun _ => by kernel_rfl) ?_
    refine rw_off 53 (fun _ => by kernel_rfl) ?_
    refine rp 54 (.bool true) ?_
    refine rp 55 (.bool true) ?_
    refine rw_off 56 (fun _ => by kernel_rfl) ?_
    refine rw_off 57 (fun _ => by kernel_rfl) ?_
    refine rp 58 (.bool true) ?_
    refine rp 59 (.bool true) ?_
    refine rw_off 60 (fun _ => by kernel_rfl) ?_
    refine rw_off 61 (fun _ => by kernel_rfl) ?_
    refine rp 62 (.bool true) ?_
    refine rw_nil ?_
    refine nw_then ?_
    refine cw_cond_t (fun _ => by kernel_rfl) ?_
    refine cw_seq ?_
    refine cw_region ?_
    refine rv 63 (.agg (AV zA).toArray) (fun _ => ol_build 26 _ rfl [] (by kernel_rfl) _ built_Az) ?_
    refine rw_put g6 ((AV zA).toArray) (fun _ => by kernel_rfl) (fun _ => ol_store 26 _ _ _ _ _ 26 rfl (by kernel_rfl) (by kernel_rfl) hr8 (infoA zA_ok) (AV_size zA_ok zA_ok) (AV_one _)) ?_
    intro w32 hp33
    replace hB := hB.put hp33 hzg6
    replace hr4 := hr4.past hp33 (by omega)
    replace hr8 := hr8.put hp33
    refine rp 3 (.bool false) ?_
    refine rw_nil ?_
    refine nw_then ?_
    refine cw_ret ?_
    refine nw_ret_then ?_
    refine nw_ret_body (.tuple #[.agg ((AV zA).toArray), .bool false]) (fun _ => res_c2 rfl _ g6 _ _ (by kernel_rfl) (by kernel_rfl) hr8 Try.underlying26 rfl (infoA zA_ok)) ?_
    rw [Bool.not_eq_true'] at hq31
    have e : acB t = none := by rw [acB, hi]; simp [hq31]
    rw [e]
    exact ⟨_, rfl, rfl, hB⟩
  | false =>
    refine rp 52 (.bool (wp4 x1).2) ?_
    refine rp 53 (.bool (!((wp4 x1).2))) ?_
    refine rp 54 (.bool (!((wp4 x1).2))) ?_
    refine rp 55 (.bool (!((wp4 x1).2))) ?_
    cases hq34 : (!((wp4 x1).2)) with
    | true =>
      refine rw_off 56 (fun _ => by kernel_rfl) ?_
      refine rw_off 57 (fun _ => by kernel_rfl) ?_
      refine rp 58 (.bool true) ?_
      refine rp 59 (.bool true) ?_
      refine rw_off 60 (fun _ => by kernel_rfl) ?_
      refine rw_off 61 (fun _ => by kernel_rfl) ?_
      refine rp 62 (.bool true) ?_
      refine rw_nil ?_
      refine nw_then ?_
      refine cw_cond_t (fun _ => by kernel_rfl) ?_
      refine cw_seq ?_
      refine cw_region ?_
      refine rv 63 (.agg (AV zA).toArray) (fun _ => ol_build 26 _ rfl [] (by kernel_rfl) _ built_Az) ?_
      refine rw_put g6 ((AV zA).toArray) (fun _ => by kernel_rfl) (fun _ => ol_store 26 _ _ _ _ _ 26 rfl (by kernel_rfl) (by kernel_rfl) hr8 (infoA zA_ok) (AV_size zA_ok zA_ok) (AV_one _)) ?_
      intro w35 hp36
      replace hB := hB.put hp36 hzg6
      replace hr4 := hr4.past hp36 (by omega)
      replace hr8 := hr8.put hp36
      refine rp 3 (.bool false) ?_
      refine rw_nil ?_
      refine nw_then ?_
      refine cw_ret ?_
      refine nw_ret_then ?_
      refine nw_ret_body (.tuple #[.agg ((AV zA).toArray), .bool false]) (fun _ => res_c2 rfl _ g6 _ _ (by kernel_rfl) (by kernel_rfl) hr8 Try.underlying26 rfl (infoA zA_ok)) ?_
      rw [Bool.not_eq_false'] at hq31
      rw [Bool.not_eq_true'] at hq34
      have e : acB t = none := by rw [acB, hi]; simp [hq31, hq34]
      rw [e]
      exact ⟨_, rfl, rfl, hB⟩
    | false =>
      refine rp 56 (.bool (dp4 x2).2) ?_
      refine rp 57 (.bool (!((dp4 x2).2))) ?_
      refine rp 58 (.bool (!((dp4 x2).2))) ?_
      refine rp 59 (.bool (!((dp4 x2).2))) ?_
      cases hq37 : (!((dp4 x2).2)) with
      | true =>
        refine rw_off 60 (fun _ => by kernel_rfl) ?_
        refine rw_off 61 (fun _ => by kernel_rfl) ?_
        refine rp 62 (.bool true) ?_
        refine rw_nil ?_
        refine nw_then ?_
        refine cw_cond_t (fun _ => by kernel_rfl) ?_
        refine cw_seq ?_
        refine cw_region ?_
        refine rv 63 (.agg (AV zA).toArray) (fun _ => ol_build 26 _ rfl [] (by kernel_rfl) _ built_Az) ?_
        refine rw_put g6 ((AV zA).toArray) (fun _ => by kernel_rfl) (fun _ => ol_store 26 _ _ _ _ _ 26 rfl (by kernel_rfl) (by kernel_rfl) hr8 (infoA zA_ok) (AV_size zA_ok zA_ok) (AV_one _)) ?_
        intro w38 hp39
        replace hB := hB.put hp39 hzg6
        replace hr4 := hr4.past hp39 (by omega)
        replace hr8 := hr8.put hp39
        refine rp 3 (.bool false) ?_
        refine rw_nil ?_
        refine nw_then ?_
        refine cw_ret ?_
        refine nw_ret_then ?_
        refine nw_ret_body (.tuple #[.agg ((AV zA).toArray), .bool false]) (fun _ => res_c2 rfl _ g6 _ _ (by kernel_rfl) (by kernel_rfl) hr8 Try.underlying26 rfl (infoA zA_ok)) ?_
        rw [Bool.not_eq_false'] at hq31
        rw [Bool.not_eq_false'] at hq34
        rw [Bool.not_eq_true'] at hq37
        have e : acB t = none := by rw [acB, hi]; simp [hq31, hq34, hq37]
        rw [e]
        exact ⟨_, rfl, rfl, hB⟩
      | false =>
        refine rp 60 (.bool (dp4 x3).2) ?_
        refine rp 61 (.bool (!((dp4 x3).2))) ?_
        refine rp 62 (.bool (!((dp4 x3).2))) ?_
        refine rw_nil ?_
        refine nw_then ?_
        cases hq40 : (!((dp4 x3).2)) with
        | true =>
          refine cw_cond_t (fun _ => by kernel_rfl) ?_
          refine cw_seq ?_
          refine cw_region ?_
          refine rv 63 (.agg (AV zA).toArray) (fun _ => ol_build 26 _ rfl [] (by kernel_rfl) _ built_Az) ?_
          refine rw_put g6 ((AV zA).toArray) (fun _ => by kernel_rfl) (fun _ => ol_store 26 _ _ _ _ _ 26 rfl (by kernel_rfl) (by kernel_rfl) hr8 (infoA zA_ok) (AV_size zA_ok zA_ok) (AV_one _)) ?_
          intro w41 hp42
          replace hB := hB.put hp42 hzg6
          replace hr4 := hr4.past hp42 (by omega)
          replace hr8 := hr8.put hp42
          refine rp 3 (.bool false) ?_
          refine rw_nil ?_
          refine nw_then ?_
          refine cw_ret ?_
          refine nw_ret_then ?_
          refine nw_ret_body (.tuple #[.agg ((AV zA).toArray), .bool false]) (fun _ => res_c2 rfl _ g6 _ _ (by kernel_rfl) (by kernel_rfl) hr8 Try.underlying26 rfl (infoA zA_ok)) ?_
          rw [Bool.not_eq_false'] at hq31
          rw [Bool.not_eq_false'] at hq34
          rw [Bool.not_eq_false'] at hq37
          rw [Bool.not_eq_true'] at hq40
          have e : acB t = none := by rw [acB, hi]; simp [hq31, hq34, hq37, hq40]
          rw [e]
          exact ⟨_, rfl, rfl, hB⟩
        | false =>
          refine cw_cond_f (fun _ => by kernel_rfl) ?_
          refine cw_skip ?_
          refine nw_then ?_
          refine cw_seq ?_
          refine cw_region ?_
          refine rp 64 (.int .u64 (((wp4 x0).1 : Nat) : Int)) ?_
          refine rp 65 (.int .u64 (((wp4 x1).1 : Nat) : Int)) ?_
          refine rv 66 (.agg (B8 (dp4 x2).1)) (fun _ => ol_row 24 _ _ _ _ _ _ rfl (by kernel_rfl) hr21 Try.underlying24 rfl (infoD' (dp_len _))) ?_
          refine rv 67 (.agg (B8 (dp4 x3).1)) (fun _ => ol_row 24 _ _ _ _ _ _ rfl (by kernel_rfl) hr30 Try.underlying24 rfl (infoD' (dp_len _))) ?_
          refine rv 68 (.agg (AV (⟨(wp4 x0).1, (wp4 x1).1, (dp4 x2).1, (dp4 x3).1⟩ : PA)).toArray) (fun _ => ol_build 26 _ rfl [(0, .int .u64 (((wp4 x0).1 : Nat) : Int)), (1, .int .u64 (((wp4 x1).1 : Nat) : Int)), (2, .agg (B8 (dp4 x2).1)), (3, .agg (B8 (dp4 x3).1))] (by kernel_rfl) _ (built_Aw ((wp4 x0).1) ((wp4 x1).1) ((dp4 x2).1) ((dp4 x3).1) (dp_len _) (dp_len _))) ?_
          refine rw_put g6 ((AV (⟨(wp4 x0).1, (wp4 x1).1, (dp4 x2).1, (dp4 x3).1⟩ : PA)).toArray) (fun _ => by kernel_rfl) (fun _ => ol_store 26 _ _ _ _ _ 26 rfl (by kernel_rfl) (by kernel_rfl) hr8 (infoA hok) (AV_size zA_ok hok) (AV_one _)) ?_
          intro w43 hp44
          replace hB := hB.put hp44 hzg6
          replace hr4 := hr4.past hp44 (by omega)
          replace hr8 := hr8.put hp44
          refine rp 3 (.bool true) ?_
          refine rw_nil ?_
          refine nw_then ?_
          refine cw_ret ?_
          refine nw_ret_body (.tuple #[.agg ((AV (⟨(wp4 x0).1, (wp4 x1).1, (dp4 x2).1, (dp4 x3).1⟩ : PA)).toArray), .bool true]) (fun _ => res_c2 rfl _ g6 _ _ (by kernel_rfl) (by kernel_rfl) hr8 Try.underlying26 rfl (infoA hok)) ?_
          rw [Bool.not_eq_false'] at hq31
          rw [Bool.not_eq_false'] at hq34
          rw [Bool.not_eq_false'] at hq37
          rw [Bool.not_eq_false'] at hq40
          have e : acB t = some ⟨(wp4 x0).1, (wp4 x1).1, (dp4 x2).1, (dp4 x3).1⟩ := by rw [acB, hi]; simp [hq31, hq34, hq37, hq40]
          rw [e]
          exact ⟨_, rfl, rfl, hB⟩
theorem waccount {w : World} {t : T} {y : V} (h : Lies w t y) : Calls Try.prog 29 #[.agg (IV y)] w fun e w' => ∃ v, e = .returned v ∧ RVl w (.tuple #[.agg (AV ((acB t).getD zA)).toArray, .bool (acB t).isSome]) v w' := by
  by_cases h4 : y.m = 4
  · obtain ⟨x0, x1, x2, x3, g, off, y0, y1, y2, y3, hi, ha, r0, r1, r2, r3, L0, L1, L2, L3⟩ := four h h4
    obtain ⟨yl, yba, ybn, ybc, yia, ym, yic⟩ := y
    simp only at ha h4
    subst ha h4
    exact wacc4 hi r0 r1 r2 r3 L0 L1 L2 L3
  · exact waccn h h4
theorem acB_ok {w : World} {t : T} {y : V} (h : Lies w t y) : okA ((acB t).getD zA) := by
  by_cases h4 : y.m = 4
  · obtain ⟨x0, x1, x2, x3, g, off, y0, y1, y2, y3, hi, ha, r0, r1, r2, r3, L0, L1, L2, L3⟩ := four h h4
    rw [acB, hi]
    simp only
    split
    · exact acc_ok L0 L1 L2 L3
    · exact zA_ok
  · have e : acB t = none := by
      obtain ⟨_, _, hm, _, _⟩ := lies_un h
      unfold acB
      split
      · rename_i hi; rw [hi] at hm; simp at hm; omega
      · rfl
    rw [e]
    exact zA_ok
theorem wde_bad {w : World} {x : Option Addr} {n c : Nat} {b : List Int} (h : Ag w x n c b) (hn : n ≤ 140737488351232) {e0 : Nat} (hd : decP b = .bad e0) : Calls Try.prog 15 #[.slice x n c] w fun e w' => ∃ v, e = .returned v ∧ RVl w (.tuple #[.agg (AV ((deA b).getD zA)).toArray, .int .i64 (if (deA b).isSome then 0 else 120)]) v w' := by
  have e : deA b = none := by unfold deA; rw [hd]
  rw [e]
  have hB : Bl w w := Bl.refl w
  refine cw_enter Try.func15 rfl 25 rfl ?_
  show CW _ _ _ _ _ _ _ [(0, .slice x n c)] _
  refine cw_seq ?_
  refine cw_region ?_
  refine rw_new 2 ((AV zA).toArray) 26 (fun _ => by kernel_rfl) (fun _ => by kernel_rfl) ?_
  intro w1 g2 hn3
  have hzg2 : w.heap.size ≤ g2 := by have := hB.size; have := hn3.hg; omega
  replace hB := hB.go hn3.below
  replace h := h.go hn3.below
  have hr4 : Rw g2 w1 ((AV zA).toArray) 26 := hn3.row
  refine rp 3 (.int .i64 0) ?_
  refine rw_nil ?_
  refine nw_then ?_
  refine cw_seq ?_
  refine cw_region ?_
  refine rp 9 (.slice x n c) ?_
  refine rw_call 10 28 #[.slice x n c] (fun _ => by kernel_rfl) (fun _ => by kernel_rfl) (R := fun v w' => (∃ (y : V) (er : Nat), v = .tuple #[.agg (IV y), .int .i64 (er : Nat)] ∧ er ≠ 0) ∧ Bl w1 w') (wdec_bad h hn hd) ?_
  rintro _ w7 ⟨⟨y5, er6, rfl, hx8⟩, hb9⟩
  replace hB := hB.go hb9
  replace h := h.go hb9
  replace hr4 := hr4.go hb9
  refine rp 8 (.tuple #[.agg (IV y5), .int .i64 er6]) ?_
  refine rp 11 (.agg (IV y5)) ?_
  refine rp 12 (.int .i64 er6) ?_
  refine rw_new 4 (#[.bool false, .slice none 0 0, .slice none 0 0]) 46 (fun _ => by kernel_rfl) (fun _ => by kernel_rfl) ?_
  intro w10 g11 hn12
  have hr13 : Rw g11 w10 (#[.bool false, .slice none 0 0, .slice none 0 0]) 46 := hn12.row
  refine rw_put g11 (IV y5) (fun _ => by kernel_rfl) (fun _ => ol_store 46 _ _ _ _ _ 46 rfl (by kernel_rfl) (by kernel_rfl) hr13 (by kernel_rfl) (by kernel_rfl) (by kernel_rfl)) ?_
  intro w14 hp15
  have hbg11 : Below w7.heap.size w7 w14 := hp15.below hn12.below (Nat.le_of_eq hn12.hg.symm) (by have := hn12.size; have := hn12.hg; omega)
  have hzg11 : w.heap.size ≤ g11 := by have := hB.size; have := hn12.hg; omega
  replace hB := hB.go hbg11
  replace h := h.go hbg11
  replace hr4 := hr4.go hbg11
  have hr16 : Rw g11 w14 (IV y5) 46 := hr13.put hp15
  refine rp 5 (.int .i64 er6) ?_
  refine rw_nil ?_
  refine nw_then ?_
  refine cw_seq ?_
  refine cw_seq ?_
  refine cw_region ?_
  refine rp 13 (.int .i64 er6) ?_
  refine rv 14 (.bool true) (fun _ => ol_conv (v := .bool (!((er6 : Int) == (0 : Int)))) (by kernel_rfl) (congrArg Value.bool (by rw [Bool.not_eq_true', beq_eq_false_iff_ne]; omega))) ?_
  refine rw_nil ?_
  refine nw_then ?_
  refine cw_cond_t (fun _ => by kernel_rfl) ?_
  refine cw_seq ?_
  refine cw_region ?_
  refine rv 15 (.agg (AV zA).toArray) (fun _ => ol_build 26 _ rfl [] (by kernel_rfl) _ built_Az) ?_
  refine rw_put g2 ((AV zA).toArray) (fun _ => by kernel_rfl) (fun _ => ol_store 26 _ _ _ _ _ 26 rfl (by kernel_rfl) (by kernel_rfl) hr4 (infoA zA_ok) (AV_size zA_ok zA_ok) (AV_one _)) ?_
  intro w17 hp18
  replace hB := hB.put hp18 hzg2
  replace hr4 := hr4.put hp18
  refine rp 3 (.int .i64 120) ?_
  refine rw_nil ?_
  refine nw_then ?_
  refine cw_ret ?_
  refine nw_ret_then ?_
  refine nw_ret_body (.tuple #[.agg ((AV zA).toArray), .int .i64 120]) (fun _ => res_c2 rfl _ g2 _ _ (by kernel_rfl) (by kernel_rfl) hr4 Try.underlying26 rfl (infoA zA_ok)) ?_
  exact ⟨_, rfl, rfl, hB⟩
theorem wde_ok {w : World} {x : Option Addr} {n c : Nat} {b : List Int} (h : Ag w x n c b) (hn : n ≤ 140737488351232) {t : T} (hd : decP b = .ok t) : Calls Try.prog 15 #[.slice x n c] w fun e w' => ∃ v, e = .returned v ∧ RVl w (.tuple #[.agg (AV ((deA b).getD zA)).toArray, .int .i64 (if (deA b).isSome then 0 else 120)]) v w' := by
  have e := deA_eq h.b hd
  rw [e]
  have hB : Bl w w := Bl.refl w
  refine cw_enter Try.func15 rfl 25 rfl ?_
  show CW _ _ _ _ _ _ _ [(0, .slice x n c)] _
  refine cw_seq ?_
  refine cw_region ?_
  refine rw_new 2 ((AV zA).toArray) 26 (fun _ => by kernel_rfl) (fun _ => by kernel_rfl) ?_
  intro w1 g2 hn3
  have hzg2 : w.heap.size ≤ g2 := by have := hB.size; have := hn3.hg; omega
  replace hB := hB.go hn3.below
  replace h := h.go hn3.below
  have hr4 : Rw g2 w1 ((AV zA).toArray) 26 := hn3.row
  refine rp 3 (.int .i64 0) ?_
  refine rw_nil ?_
  refine nw_then ?_
  refine cw_seq ?_
  refine cw_region ?_
  refine rp 9 (.slice x n c) ?_
  refine rw_call 10 28 #[.slice x n c] (fun _ => by kernel_rfl) (fun _ => by kernel_rfl) (R := fun v w' => (∃ y : V, v = .tuple #[.agg (IV y), .int .i64 0] ∧ Lies w' t y) ∧ Bl w1 w') (wdec_ok h hn hd) ?_
  rintro _ w7 ⟨⟨y5, rfl, hx8⟩, hb9⟩
  replace hB := hB.go hb9
  replace h := h.go hb9
  replace hr4 := hr4.go hb9
  refine rp 8 (.tuple #[.agg (IV y5), .int .i64 0]) ?_
  refine rp 11 (.agg (IV y5)) ?_
  refine rp 12 (.int .i64 0) ?_
  refine rw_new 4 (#[.bool false, .slice none 0 0, .slice none 0 0]) 46 (fun _ => by kernel_rfl) (fun _ => by kernel_rfl) ?_
  intro w10 g11 hn12
  have hr13 : Rw g11 w10 (#[.bool false, .slice none 0 0, .slice none 0 0]) 46 := hn12.row
  refine rw_put g11 (IV y5) (fun _ => by kernel_rfl) (fun _ => ol_store 46 _ _ _ _ _ 46 rfl (by kernel_rfl) (by kernel_rfl) hr13 (by kernel_rfl) (by kernel_rfl) (by kernel_rfl)) ?_
  intro w14 hp15
  have hbg11 : Below w7.heap.size w7 w14 := hp15.below hn12.below (Nat.le_of_eq hn12.hg.symm) (by have := hn12.size; have := hn12.hg; omega)
  have hzg11 : w.heap.size ≤ g11 := by have := hB.size; have := hn12.hg; omega
  replace hB := hB.go hbg11
  replace h := h.go hbg11
  replace hr4 := hr4.go hbg11
  replace hx8 := lies_mono hbg11 _ _ hx8
  have hr16 : Rw g11 w14 (IV y5) 46 := hr13.put hp15
  refine rp 5 (.int .i64 0) ?_
  refine rw_nil ?_
  refine nw_then ?_
  refine cw_seq ?_
  refine cw_seq ?_
  refine cw_region ?_
  refine rp 13 (.int .i64 0) ?_
  refine rp 14 (.bool false) ?_
  refine rw_nil ?_
  refine nw_then ?_
  refine cw_cond_f (fun _ => by kernel_rfl) ?_
  refine cw_skip ?_
  refine nw_then ?_
  refine cw_seq ?_
  refine cw_region ?_
  refine rv 17 (.agg (IV y5)) (fun _ => ol_row 46 _ _ _ _ _ _ rfl (by kernel_rfl) hr16 Try.underlying46 rfl (by kernel_rfl)) ?_
  refine rw_call 18 29 #[.agg (IV y5)] (fun _ => by kernel_rfl) (fun _ => by kernel_rfl) (R := RVl w14 (.tuple #[.agg (AV ((acB t).getD zA)).toArray, .bool (acB t).isSome])) (waccount hx8) ?_
  rintro _ w17 ⟨rfl, hb18⟩
  replace hB := hB.go hb18
  replace h := h.go hb18
  replace hr4 := hr4.go hb18
  replace hx8 := lies_mono hb18 _ _ hx8
  replace hr16 := hr16.go hb18
  refine rp 16 (.tuple #[.agg (AV ((acB t).getD zA)).toArray, .bool (acB t).isSome]) ?_
  refine rp 19 (.agg (AV ((acB t).getD zA)).toArray) ?_
  refine rp 20 (.bool (acB t).isSome) ?_
  refine rw_new 6 ((AV zA).toArray) 26 (fun _ => by kernel_rfl) (fun _ => by kernel_rfl) ?_
  intro w19 g20 hn21
  have hr22 : Rw g20 w19 ((AV zA).toArray) 26 := hn21.row
  refine rw_put g20 ((AV ((acB t).getD zA)).toArray) (fun _ => by kernel_rfl) (fun _ => ol_store 26 _ _ _ _ _ 26 rfl (by kernel_rfl) (by kernel_rfl) hr22 (infoA (acB_ok hx8)) (AV_size zA_ok (acB_ok hx8)) (AV_one _)) ?_
  intro w23 hp24
  have hbg20 : Below w17.heap.size w17 w23 := hp24.below hn21.below (Nat.le_of_eq hn21.hg.symm) (by have := hn21.size; have := hn21.hg; omega)
  have hzg20 : w.heap.size ≤ g20 := by have := hB.size; have := hn21.hg; omega
  replace hB := hB.go hbg20
  replace h := h.go hbg20
  replace hr4 := hr4.go hbg20
  replace hx8 := lies_mono hbg20 _ _ hx8
  replace hr16 := hr16.go hbg20
  have hr25 : Rw g20 w23 ((AV ((acB t).getD zA)).toArray) 26 := hr22.put hp24
  refine rp 7 (.bool (acB t).isSome) ?_
  refine rw_nil ?_
  refine nw_then ?_
  refine cw_seq ?_
  refine cw_seq ?_
  refine cw_region ?_
  refine rp 21 (.bool (acB t).isSome) ?_
  refine rp 22 (.bool (!((acB t).isSome))) ?_
  refine rw_nil ?_
  refine nw_then ?_
  cases hq26 : (!((acB t).isSome)) with
  | true =>
    refine cw_cond_t (fun _ => by kernel_rfl) ?_
    refine cw_seq ?_
    refine cw_region ?_
    refine rv 23 (.agg (AV zA).toArray) (fun _ => ol_build 26 _ rfl [] (by kernel_rfl) _ built_Az) ?_
    refine rw_put g2 ((AV zA).toArray) (fun _ => by kernel_rfl) (fun _ => ol_store 26 _ _ _ _ _ 26 rfl (by kernel_rfl) (by kernel_rfl) hr4 (infoA zA_ok) (AV_size zA_ok zA_ok) (AV_one _)) ?_
    intro w27 hp28
    replace hB := hB.put hp28 hzg2
    replace hr4 := hr4.put hp28
    refine rp 3 (.int .i64 120) ?_
    refine rw_nil ?_
    refine nw_then ?_
    refine cw_ret ?_
    refine nw_ret_then ?_
    refine nw_ret_body (.tuple #[.agg ((AV zA).toArray), .int .i64 120]) (fun _ => res_c2 rfl _ g2 _ _ (by kernel_rfl) (by kernel_rfl) hr4 Try.underlying26 rfl (infoA zA_ok)) ?_
    rw [Bool.not_eq_true'] at hq26
    have e2 : acB t = none := by cases hh : acB t with | none => rfl | some _ => rw [hh] at hq26; cases hq26
    rw [e2]
    exact ⟨_, rfl, rfl, hB⟩
  | false =>
    refine cw_cond_f (fun _ => by kernel_rfl) ?_
    refine cw_skip ?_
    refine nw_then ?_
    refine cw_seq ?_
    refine cw_region ?_
    refine rv 24 (.agg ((AV ((acB t).getD zA)).toArray)) (fun _ => ol_row 26 _ _ _ _ _ _ rfl (by kernel_rfl) hr25 Try.underlying26 rfl (infoA (acB_ok hx8))) ?_
    refine rw_put g2 ((AV ((acB t).getD zA)).toArray) (fun _ => by kernel_rfl) (fun _ => ol_store 26 _ _ _ _ _ 26 rfl (by kernel_rfl) (by kernel_rfl) hr4 (infoA (acB_ok hx8)) (AV_size zA_ok (acB_ok hx8)) (AV_one _)) ?_
    intro w29 hp30
    replace hB := hB.put hp30 hzg2
    replace hr4 := hr4.put hp30
    refine rp 3 (.int .i64 0) ?_
    refine rw_nil ?_
    refine nw_then ?_
    refine cw_ret ?_
    refine nw_ret_body (.tuple #[.agg ((AV ((acB t).getD zA)).toArray), .int .i64 0]) (fun _ => res_c2 rfl _ g2 _ _ (by kernel_rfl) (by kernel_rfl) hr4 Try.underlying26 rfl (infoA (acB_ok hx8))) ?_
    rw [Bool.not_eq_false'] at hq26
    rw [hq26]
    exact ⟨_, rfl, rfl, hB⟩
theorem wde {w : World} {x : Option Addr} {n c : Nat} {b : List Int} (h : Ag w x n c b) (hn : n ≤ 140737488351232) : Calls Try.prog 15 #[.slice x n c] w fun e w' => ∃ v, e = .returned v ∧ RVl w (.tuple #[.agg (AV ((deA b).getD zA)).toArray, .int .i64 (if (deA b).isSome then 0 else 120)]) v w' := by
  cases hd : decP b with
  | bad e0 => exact wde_bad h hn hd
  | ok t => exact wde_ok h hn hd
theorem deA_ok {b : List Int} (hb : bytP b) : okA ((deA b).getD zA) := by
  cases hd : deA b with
  | none => exact zA_ok
  | some a => exact (de_some hb hd).1
end Go.Proofs.Ytmaajddofmahpaa
/- What the document's functions of accounts answer. -/
namespace Go.Proofs.Ytmaajddofmahpaa
open Go.RowKit
open Di (dref)
set_option linter.unusedVariables false
set_option maxRecDepth 100000
/-- The first bytes, and zeros up to 32. -/
def dg (b : List Int) (i : Nat) : List Int := (b.take i ++ List.replicate 32 0).take 32
theorem dg_len (b : List Int) (i : Nat) : (dg b i).length = 32 := by simp [dg]
theorem dg_zero (b : List Int) : dg b 0 = z32 := by unfold dg z32; rw [List.take_zero, List.nil_append]; exact List.take_of_length_le (by simp)
theorem dg_all {b : List Int} {i : Nat} (h : b.length ≤ i ∨ 32 ≤ i) : dg b i = (b ++ List.replicate 32 0).take 32 := by
  unfold dg
  rcases h with h | h
  · rw [List.take_of_length_le h]
  · rw [List.take_append, List.take_append, List.take_take, Nat.min_eq_left h, List.length_take]
    by_cases hb : b.length ≤ i
    · rw [Nat.min_eq_right hb]
    · rw [Nat.min_eq_left (by omega), show 32 - i = 0 by omega, show 32 - b.length = 0 by omega]
theorem dg_set {b : List Int} {i : Nat} (h : i < b.length) (h2 : i < 32) : (dg b i).set i (b.getD i 0) = dg b (i + 1) := by
  refine List.ext_getElem? fun k => ?_
  unfold dg
  rw [List.getElem?_set, List.length_take, List.getElem?_take, List.getElem?_take]
  by_cases hk : k < 32
  · rw [if_pos hk, if_pos hk]
    by_cases e : i = k
    · subst e
      rw [if_pos rfl, if_pos (by simp; omega), List.getElem?_append_left (by simp; omega), List.getElem?_take, if_pos (by omega), List.getD, List.getElem?_eq_getElem h]
      rfl
    · rw [if_neg e]
      by_cases hki : k < i
      · rw [List.getElem?_append_left (by simp; omega), List.getElem?_append_left (by simp; omega), List.getElem?_take, List.getElem?_take, if_pos hki, if_pos (by omega)]
      · rw [List.getElem?_append_right (by simp; omega), List.getElem?_append_right (by simp; omega), List.length_take, List.length_take, List.getElem?_replicate, List.getElem?_replicate, if_pos (by omega), if_pos (by omega)]
  · rw [if_neg hk, if_neg hk, if_neg (by omega)]
theorem ol_indexP {P : Program} {ρ : Operand → Value} {w : World} {o : Oper} (T : TypeId) (x y : Operand) (g off j len sz : Nat) (E : TypeId) (ho : o.op = .indexAddr T x y) (hx : ρ x = .pointer (some ⟨g, off, none⟩)) (hy : ρ y = .int .i64 j) (hj : j < len) (h2 : 1 < len) (hu : P.underlying T = some (.array len E)) (hi : (P.info? E).map (·.size) = some sz) :
    (execOp ρ o).run P w = .ok (.value (.pointer (some ⟨g, off + j * sz, none⟩))) w := by
  have hs : (sizeOf E).run P w = .ok sz w := by
    cases hq : P.info? E with
    | none => simp [hq] at hi
    | some z => simp [hq] at hi; simp [sizeOf, typeInfo, hq, hi]
  unfold execOp
  rw [ho]
  simp only [hx, hy]
  have he : (if j * sz = 0 then (⟨g, off, none⟩ : Addr) else ⟨g, off + j * sz, none⟩) = ⟨g, off + j * sz, none⟩ := by split <;> simp_all
  simp [Instr.indexAt, Instr.sureAddr, asIntOf, run_underlying hu, hs, hj, Result.andThen, Addr.add, he]
theorem ol_setC {ρ : Operand → Value} {w : World} {o : Oper} (T : TypeId) (x y : Operand) (g j : Nat) (cells : Array Value) (E : TypeId) (v : Value) (h : Rw g w cells E) (ho : o.op = .store T x y) (hx : ρ x = .pointer (some ⟨g, j, none⟩)) (hy : ρ y = v) (hj : j < cells.size) (h1 : v.cells = #[v]) (h2 : v.oneCell' = true) (hi : (Try.prog.info? T).map (·.size) = some 1) :
    (execOp ρ o).run Try.prog w = .ok .skip (w.setCell ⟨g, j, none⟩ v) := by
  have hc : w.cell? ⟨g, j, none⟩ = some cells[j] := by rw [cell_of_row _ _ _ _ _ _ h]; exact Array.getElem?_eq_getElem hj
  have hf : w.frozen? ⟨g, j, none⟩ = false := frozen_of_row _ _ _ _ _ h
  have hs : (sizeOf T).run Try.prog w = .ok 1 w := by
    cases hq : Try.prog.info? T with
    | none => simp [hq] at hi
    | some z => simp [hq] at hi; simp [sizeOf, typeInfo, hq, hi]
  unfold execOp
  rw [ho]
  simp only [hx, hy, Instr.storeAt, Instr.sureAddr, storeVar, h1, Sem.run_bind, Sem.run_pure, Result.andThen_ok, hs]
  go_simp
  rw [run_store _ _ _ _ _ h2]
  simp [hc, hf]
theorem rw_set {g j : Nat} {w w' : World} {x : Int} {ds : List Int} {ty : TypeId} (h : Rw g w (B8 ds) ty) (hs : Set1 w w' g j (.int .u8 x)) : Rw g w' (B8 (ds.set j x)) ty := by
  rw [hs.hw]
  have e := heap_setCell_same w g j _ ty (.int .u8 x) h
  have e2 : (B8 ds).setIfInBounds j (.int .u8 x) = B8 (ds.set j x) := by unfold B8; rw [List.setIfInBounds_toArray, List.map_set]
  rw [e2] at e
  exact e
theorem rwempty (w : World) : Calls Try.prog 14 #[] w fun e w' => ∃ v, e = .returned v ∧ RVl w (.agg (AV eA).toArray) v w' := by
  have hB : Bl w w := Bl.refl w
  refine cw_enter Try.func14 rfl 4 rfl ?_
  show CW _ _ _ _ _ _ _ [] _
  refine cw_seq ?_
  refine cw_region ?_
  refine rw_new 0 ((AV zA).toArray) 26 (fun _ => by kernel_rfl) (fun _ => by kernel_rfl) ?_
  intro w1 g2 hn3
  have hzg2 : w.heap.size ≤ g2 := by have := hB.size; have := hn3.hg; omega
  replace hB := hB.go hn3.below
  have hr4 : Rw g2 w1 ((AV zA).toArray) 26 := hn3.row
  refine rw_nil ?_
  refine nw_then ?_
  refine cw_seq ?_
  refine cw_region ?_
  refine rw_call 1 26 #[] (fun _ => by kernel_rfl) (fun _ => by kernel_rfl) (R := RVl w1 (.agg (B8 (dref [])))) (rwecode w1) ?_
  rintro _ w5 ⟨rfl, hb6⟩
  replace hB := hB.go hb6
  replace hr4 := hr4.go hb6
  refine rw_call 2 27 #[] (fun _ => by kernel_rfl) (fun _ => by kernel_rfl) (R := RVl w5 (.agg (B8 (dref [128])))) (rweroot w5) ?_
  rintro _ w7 ⟨rfl, hb8⟩
  replace hB := hB.go hb8
  replace hr4 := hr4.go hb8
  refine rv 3 (.agg (AV (⟨0, 0, dref [], dref [128]⟩ : PA)).toArray) (fun _ => ol_build 26 _ rfl [(2, .agg (B8 (dref []))), (3, .agg (B8 (dref [128])))] (by kernel_rfl) _ (built_Ae (dref []) (dref [128]) (dref_len _) (dref_len _))) ?_
  refine rw_put g2 ((AV (⟨0, 0, dref [], dref [128]⟩ : PA)).toArray) (fun _ => by kernel_rfl) (fun _ => ol_store 26 _ _ _ _ _ 26 rfl (by kernel_rfl) (by kernel_rfl) hr4 (infoA eA_ok) (AV_size zA_ok eA_ok) (AV_one _)) ?_
  intro w9 hp10
  replace hB := hB.put hp10 hzg2
  replace hr4 := hr4.put hp10
  refine rw_nil ?_
  refine nw_then ?_
  refine cw_ret ?_
  refine nw_ret_body (.agg ((AV (⟨0, 0, dref [], dref [128]⟩ : PA)).toArray)) (fun _ => res_c1 rfl _ g2 _ (by kernel_rfl) hr4 Try.underlying26 rfl (infoA eA_ok)) ?_
  exact ⟨_, rfl, rfl, hB⟩
theorem rwtext (w : World) (x : Option Addr) (n c : Nat) : Calls Try.prog 25 #[.slice x n c] w fun e w' => ∃ v, e = .returned v ∧ RVl w (.agg (IV (⟨false, x, n, c, none, 0, 0⟩ : V))) v w' := by
  have hB : Bl w w := Bl.refl w
  refine cw_enter Try.func25 rfl 5 rfl ?_
  show CW _ _ _ _ _ _ _ [(0, .slice x n c)] _
  refine cw_seq ?_
  refine cw_region ?_
  refine rw_new 2 (#[.bool false, .slice none 0 0, .slice none 0 0]) 46 (fun _ => by kernel_rfl) (fun _ => by kernel_rfl) ?_
  intro w1 g2 hn3
  have hzg2 : w.heap.size ≤ g2 := by have := hB.size; have := hn3.hg; omega
  replace hB := hB.go hn3.below
  have hr4 : Rw g2 w1 (#[.bool false, .slice none 0 0, .slice none 0 0]) 46 := hn3.row
  refine rw_nil ?_
  refine nw_then ?_
  refine cw_seq ?_
  refine cw_region ?_
  refine rp 3 (.slice x n c) ?_
  refine rp 4 (.agg #[.bool false, .slice x n c, .slice none 0 0]) ?_
  refine rw_put g2 (#[.bool false, .slice x n c, .slice none 0 0]) (fun _ => by kernel_rfl) (fun _ => ol_store 46 _ _ _ _ _ 46 rfl (by kernel_rfl) (by kernel_rfl) hr4 (by kernel_rfl) (by kernel_rfl) (by kernel_rfl)) ?_
  intro w5 hp6
  replace hB := hB.put hp6 hzg2
  replace hr4 := hr4.put hp6
  refine rw_nil ?_
  refine nw_then ?_
  refine cw_ret ?_
  refine nw_ret_body (.agg (#[.bool false, .slice x n c, .slice none 0 0])) (fun _ => res_c1 rfl _ g2 _ (by kernel_rfl) hr4 Try.underlying46 rfl (by kernel_rfl)) ?_
  exact ⟨_, rfl, rfl, hB⟩
set_option maxHeartbeats 1000000 in
theorem rwenc (a : PA) (ok : okA a) (w : World) : Calls Try.prog 12 #[.agg (AV a).toArray] w fun e w' => ∃ v, e = .returned v ∧ RSl w (enA a) v w' := by
  have hB : Bl w w := Bl.refl w
  refine cw_enter Try.func12 rfl 28 rfl ?_
  show CW _ _ _ _ _ _ _ [(0, .agg (AV a).toArray)] _
  refine cw_seq ?_
  refine cw_region ?_
  refine rw_new 1 ((AV a).toArray) 26 (fun _ => by kernel_rfl) (fun _ => by kernel_rfl) ?_
  intro w1 g2 hn3
  have hzg2 : w.heap.size ≤ g2 := by have := hB.size; have := hn3.hg; omega
  replace hB := hB.go hn3.below
  have hr4 : Rw g2 w1 ((AV a).toArray) 26 := hn3.row
  refine rp 2 (.slice none 0 0) ?_
  refine rw_nil ?_
  refine nw_then ?_
  refine cw_seq ?_
  refine cw_region ?_
  refine rp 3 (.slice none 0 0) ?_
  refine rp 4 (.slice none 0 0) ?_
  refine rw_nil ?_
  refine nw_then ?_
  refine cw_seq ?_
  have ha5 := code_ag hr4 ok
  refine cw_region ?_
  refine rp 5 (.slice none 0 0) ?_
  refine rp 6 (.pointer (some ⟨g2, 2, none⟩)) ?_
  refine rp 7 (.slice (some ⟨g2, 2, none⟩) 32 32) ?_
  obtain ⟨a6, c7, w8, hr9, ha10, hb11⟩ := app_nil ha5 (by omega)
  refine rw_v 8 (.slice a6 32 c7) (fun _ => by kernel_rfl) (fun _ => ol_app hr9 _ _ rfl (by kernel_rfl) (by kernel_rfl)) ?_
  replace hB := hB.go hb11
  replace hr4 := hr4.go hb11
  replace ha5 := ha5.go hb11
  refine rp 3 (.slice a6 32 c7) ?_
  refine rw_nil ?_
  refine nw_then ?_
  refine cw_seq ?_
  have ha12 := stor_ag hr4 ok
  refine cw_region ?_
  refine rp 9 (.slice none 0 0) ?_
  refine rp 10 (.pointer (some ⟨g2, 34, none⟩)) ?_
  refine rp 11 (.slice (some ⟨g2, 34, none⟩) 32 32) ?_
  obtain ⟨a13, c14, w15, hr16, ha17, hb18⟩ := app_nil ha12 (by omega)
  refine rw_v 12 (.slice a13 32 c14) (fun _ => by kernel_rfl) (fun _ => ol_app hr16 _ _ rfl (by kernel_rfl) (by kernel_rfl)) ?_
  replace hB := hB.go hb18
  replace hr4 := hr4.go hb18
  replace ha5 := ha5.go hb18
  replace ha10 := ha10.go hb18
  replace ha12 := ha12.go hb18
  refine rp 4 (.slice a13 32 c14) ?_
  refine rw_nil ?_
  refine nw_then ?_
  refine cw_seq ?_
  refine cw_draw (fun v => Rw g2 v (AV a).toArray 26) (by kernel_rfl) (hr4) ?_
  replace hB := hB.go (Below.refl _ _).drew
  replace hr4 := hr4.go (Below.refl _ _).drew
  replace ha5 := ha5.go (Below.refl _ _).drew
  replace ha10 := ha10.go (Below.refl _ _).drew
  replace ha12 := ha12.go (Below.refl _ _).drew
  replace ha17 := ha17.go (Below.refl _ _).drew
  refine dt 0 13 (.pointer (some ⟨g2, 0, none⟩)) (fun v hv _ => by kernel_rfl) hr4 ?_
  refine dt 1 14 (.int .u64 ((a.n : Nat) : Int)) (fun v hv _ => ol_cell 22 _ ⟨g2, 0, none⟩ _ _ rfl (by kernel_rfl) (by rw [cell_of_row _ _ _ _ _ _ hv]; rfl) Try.underlying22 rfl) hr4 ?_
  refine dt 4 17 (.pointer (some ⟨g2, 1, none⟩)) (fun v hv _ => by kernel_rfl) hr4 ?_
  refine dt 5 18 (.int .u64 ((a.b : Nat) : Int)) (fun v hv _ => ol_cell 22 _ ⟨g2, 1, none⟩ _ _ rfl (by kernel_rfl) (by rw [cell_of_row _ _ _ _ _ _ hv]; rfl) Try.underlying22 rfl) hr4 ?_
  refine dt 8 21 (.slice a6 32 c7) (fun v hv _ => by kernel_rfl) hr4 ?_
  refine dt 10 23 (.slice a13 32 c14) (fun v hv _ => by kernel_rfl) hr4 ?_
  refine dw_ready [2] (by kernel_rfl) (by simp) ?_
  refine ar_call 2 15 20 #[.int .u64 ((a.n : Nat) : Int)] rfl (fun _ => by kernel_rfl) (fun _ => by kernel_rfl) (R := RSl w15.drew (be a.n)) (rwbytes a.n ok.n w15.drew) (fun u w' h => hr4.go h.2) ?_ ar_nil
  rintro _ w22 ⟨⟨a19, n20, c21, rfl, ha23⟩, hb24⟩
  replace hB := hB.go hb24
  replace hr4 := hr4.go hb24
  replace ha5 := ha5.go hb24
  replace ha10 := ha10.go hb24
  replace ha12 := ha12.go hb24
  replace ha17 := ha17.go hb24
  refine dw_ready [3] (by kernel_rfl) (by simp) ?_
  refine ar_call 3 16 25 #[.slice a19 n20 c21] rfl (fun _ => by kernel_rfl) (fun _ => by kernel_rfl) (R := RVl w22 (.agg (IV (⟨false, a19, n20, c21, none, 0, 0⟩ : V)))) (rwtext w22 a19 n20 c21) (fun u w' h => hr4.go h.2) ?_ ar_nil
  rintro _ w25 ⟨rfl, hb26⟩
  replace hB := hB.go hb26
  replace hr4 := hr4.go hb26
  replace ha5 := ha5.go hb26
  replace ha10 := ha10.go hb26
  replace ha12 := ha12.go hb26
  replace ha17 := ha17.go hb26
  replace ha23 := ha23.go hb26
  refine dw_ready [6] (by kernel_rfl) (by simp) ?_
  refine ar_call 6 19 20 #[.int .u64 ((a.b : Nat) : Int)] rfl (fun _ => by kernel_rfl) (fun _ => by kernel_rfl) (R := RSl w25 (be a.b)) (rwbytes a.b ok.b w25) (fun u w' h => hr4.go h.2) ?_ ar_nil
  rintro _ w30 ⟨⟨a27, n28, c29, rfl, ha31⟩, hb32⟩
  replace hB := hB.go hb32
  replace hr4 := hr4.go hb32
  replace ha5 := ha5.go hb32
  replace ha10 := ha10.go hb32
  replace ha12 := ha12.go hb32
  replace ha17 := ha17.go hb32
  replace ha23 := ha23.go hb32
  refine dw_ready [7] (by kernel_rfl) (by simp) ?_
  refine ar_call 7 20 25 #[.slice a27 n28 c29] rfl (fun _ => by kernel_rfl) (fun _ => by kernel_rfl) (R := RVl w30 (.agg (IV (⟨false, a27, n28, c29, none, 0, 0⟩ : V)))) (rwtext w30 a27 n28 c29) (fun u w' h => hr4.go h.2) ?_ ar_nil
  rintro _ w33 ⟨rfl, hb34⟩
  replace hB := hB.go hb34
  replace hr4 := hr4.go hb34
  replace ha5 := ha5.go hb34
  replace ha10 := ha10.go hb34
  replace ha12 := ha12.go hb34
  replace ha17 := ha17.go hb34
  replace ha23 := ha23.go hb34
  replace ha31 := ha31.go hb34
  refine dw_ready [9] (by kernel_rfl) (by simp) ?_
  refine ar_call 9 22 25 #[.slice a6 32 c7] rfl (fun _ => by kernel_rfl) (fun _ => by kernel_rfl) (R := RVl w33 (.agg (IV (⟨false, a6, 32, c7, none, 0, 0⟩ : V)))) (rwtext w33 a6 32 c7) (fun u w' h => hr4.go h.2) ?_ ar_nil
  rintro _ w35 ⟨rfl, hb36⟩
  replace hB := hB.go hb36
  replace hr4 := hr4.go hb36
  replace ha5 := ha5.go hb36
  replace ha10 := ha10.go hb36
  replace ha12 := ha12.go hb36
  replace ha17 := ha17.go hb36
  replace ha23 := ha23.go hb36
  replace ha31 := ha31.go hb36
  refine dw_ready [11] (by kernel_rfl) (by simp) ?_
  refine ar_call 11 24 25 #[.slice a13 32 c14] rfl (fun _ => by kernel_rfl) (fun _ => by kernel_rfl) (R := RVl w35 (.agg (IV (⟨false, a13, 32, c14, none, 0, 0⟩ : V)))) (rwtext w35 a13 32 c14) (fun u w' h => hr4.go h.2) ?_ ar_nil
  rintro _ w37 ⟨rfl, hb38⟩
  replace hB := hB.go hb38
  replace hr4 := hr4.go hb38
  replace ha5 := ha5.go hb38
  replace ha10 := ha10.go hb38
  replace ha12 := ha12.go hb38
  replace ha17 := ha17.go hb38
  replace ha23 := ha23.go hb38
  replace ha31 := ha31.go hb38
  refine dw_ready [12] (by kernel_rfl) (by simp) ?_
  refine ar_newS 12 25 (IV4 (⟨false, a19, n20, c21, none, 0, 0⟩ : V) (⟨false, a27, n28, c29, none, 0, 0⟩ : V) (⟨false, a6, 32, c7, none, 0, 0⟩ : V) (⟨false, a13, 32, c14, none, 0, 0⟩ : V)) 46 4 rfl (fun _ => by kernel_rfl) (fun _ => by kernel_rfl) (fun w' g h => hr4.go h.below) ?_ ar_nil
  intro w39 g40 hn41
  replace hB := hB.go hn41.below
  replace hr4 := hr4.go hn41.below
  replace ha5 := ha5.go hn41.below
  replace ha10 := ha10.go hn41.below
  replace ha12 := ha12.go hn41.below
  replace ha17 := ha17.go hn41.below
  replace ha23 := ha23.go hn41.below
  replace ha31 := ha31.go hn41.below
  have hr42 : Rw g40 w39 (IV4 (⟨false, a19, n20, c21, none, 0, 0⟩ : V) (⟨false, a27, n28, c29, none, 0, 0⟩ : V) (⟨false, a6, 32, c7, none, 0, 0⟩ : V) (⟨false, a13, 32, c14, none, 0, 0⟩ : V)) 46 := hn41.row
  have hl43 : Lies w39 (itA a) ⟨true, none, 0, 0, some ⟨g40, 0, none⟩, 4, 4⟩ := lies_list4 hr42 (lies_tx ha23 (by have := ha23.l; have := be_b8 ok.n; omega)) (lies_tx ha31 (by have := ha31.l; have := be_b8 ok.b; omega)) (lies_tx ha10 (by omega)) (lies_tx ha17 (by omega))
  refine dt 13 26 (.agg #[.bool true, .slice none 0 0, .slice (some ⟨g40, 0, none⟩) 4 4]) (fun v hv => (fun _ => by kernel_rfl)) hr4 ?_
  refine dw_ready [14] (by kernel_rfl) (by simp) ?_
  refine ar_call 14 27 24 #[.agg #[.bool true, .slice none 0 0, .slice (some ⟨g40, 0, none⟩) 4 4]] rfl (fun _ => by kernel_rfl) (fun _ => by kernel_rfl) (R := RSl w39 (enA a)) (rwencode (y := ⟨true, none, 0, 0, some ⟨g40, 0, none⟩, 4, 4⟩) ok hl43) (fun u w' h => hr4.go h.2) ?_ ar_nil
  rintro _ w47 ⟨⟨a44, n45, c46, rfl, ha48⟩, hb49⟩
  replace hB := hB.go hb49
  replace hr4 := hr4.go hb49
  replace ha5 := ha5.go hb49
  replace ha10 := ha10.go hb49
  replace ha12 := ha12.go hb49
  replace ha17 := ha17.go hb49
  replace ha23 := ha23.go hb49
  replace ha31 := ha31.go hb49
  refine dt 15 2 (.slice a44 n45 c46) (fun v hv _ => by kernel_rfl) hr4 ?_
  refine dw_done (by kernel_rfl) ?_
  refine nw_then ?_
  refine cw_ret ?_
  refine nw_ret_body (.slice a44 n45 c46) (fun _ => by kernel_rfl) ?_
  exact ⟨_, rfl, ⟨_, _, _, rfl, ha48⟩, hB⟩
theorem rwdig {w : World} {x : Option Addr} {n c : Nat} {b : List Int} (h : Ag w x n c b) (hn : n ≤ 140737488351232) : Calls Try.prog 32 #[.slice x n c] w fun e w' => ∃ v, e = .returned v ∧ RVl w (.agg (B8 ((b ++ List.replicate 32 0).take 32))) v w' := by
  have hll := h.l
  have hlow : ∀ g off, x = some ⟨g, off, none⟩ → 0 < n → g < w.heap.size := fun g off e h0 => by obtain ⟨g1, o1, e1, _, _, hc⟩ := ag_head h h0; rw [e] at e1; cases e1; exact block_lt_of_cell (hc 0 h0)
  have hB : Bl w w := Bl.refl w
  refine cw_enter Try.func32 rfl 22 rfl ?_
  show CW _ _ _ _ _ _ _ [(0, .slice x n c)] _
  refine cw_seq ?_
  refine cw_region ?_
  refine rw_new 2 (B8 z32) 24 (fun _ => by kernel_rfl) (fun _ => by kernel_rfl) ?_
  intro w1 g2 hn3
  have hzg2 : w.heap.size ≤ g2 := by have := hB.size; have := hn3.hg; omega
  replace hB := hB.go hn3.below
  replace h := h.go hn3.below
  have hr4 : Rw g2 w1 (B8 z32) 24 := hn3.row
  refine rw_nil ?_
  refine nw_then ?_
  refine cw_seq ?_
  refine cw_region ?_
  refine rw_new 3 (B8 z32) 24 (fun _ => by kernel_rfl) (fun _ => by kernel_rfl) ?_
  intro w5 g6 hn7
  have hlg2g6 : g2 < g6 := by have := hr4.lt; have := hn7.hg; omega
  have hzg6 : w.heap.size ≤ g6 := by have := hB.size; have := hn7.hg; omega
  replace hB := hB.go hn7.below
  replace h := h.go hn7.below
  replace hr4 := hr4.go hn7.below
  have hr8 : Rw g6 w5 (B8 z32) 24 := hn7.row
  refine rw_nil ?_
  refine nw_then ?_
  refine cw_seq ?_
  refine cw_seq ?_
  refine cw_region ?_
  refine rp 4 (.int .i64 0) ?_
  refine rw_nil ?_
  refine nw_then ?_
  refine cw_block ?_
  refine cw_loop (X := Nat) (fun i => [(4, .int .i64 ((i : Nat) : Int)), (3, .pointer (some ⟨g6, 0, none⟩)), (2, .pointer (some ⟨g2, 0, none⟩)), (0, .slice x n c)]) (fun i v => Bl w v ∧ Rw g2 v (B8 z32) 24 ∧ Rw g6 v (B8 (dg b i)) 24 ∧ Ag v x n c b ∧ i ≤ 32 ∧ i ≤ n) (fun i => 32 - i) 0 (by exact ⟨fun _ => by kernel_rfl, ⟨fun _ => by kernel_rfl, ⟨fun _ => by kernel_rfl, ⟨fun _ => by kernel_rfl, trivial⟩⟩⟩⟩) ⟨hB, hr4, by rw [dg_zero]; exact hr8, h, by omega, by omega⟩ ?_
  clear hB hr4 hr8 h
  rintro i v ⟨hB, hr4, hr8, h, hi1, hi2⟩
  by_cases hlt : i < 32 ∧ i < n
  · skip
    obtain ⟨gb, off, rfl, _, _, hcs⟩ := ag_head h (by omega)
    have hc := hcs i hlt.2
    have hlb : gb < g6 := by have := hlow gb off rfl (by omega); omega
    refine cw_seq ?_
    refine cw_seq ?_
    refine cw_region ?_
    refine rp 5 (.int .i64 ((i : Nat) : Int)) ?_
    refine rv 6 (.bool true) (fun _ => ol_conv (v := .bool (decide (((i : Nat) : Int) < (32 : Int)))) (by kernel_rfl) (congrArg Value.bool (decide_eq_true (by omega)))) ?_
    refine rp 7 (.bool true) ?_
    refine rp 8 (.int .i64 ((i : Nat) : Int)) ?_
    refine rp 9 (.slice (some ⟨gb, off, none⟩) n c) ?_
    refine rp 10 (.int .i64 n) ?_
    refine rv 11 (.bool true) (fun _ => ol_conv (v := .bool (decide (((i : Nat) : Int) < (n : Int)))) (by kernel_rfl) (congrArg Value.bool (decide_eq_true (by omega)))) ?_
    refine rp 12 (.bool true) ?_
    refine rw_nil ?_
    refine nw_then ?_
    refine cw_cond_t (fun _ => by kernel_rfl) ?_
    refine cw_skip ?_
    refine nw_then ?_
    refine cw_seq ?_
    refine cw_block ?_
    refine cw_region ?_
    refine rp 15 (.int .i64 ((i : Nat) : Int)) ?_
    refine rp 16 (.slice (some ⟨gb, off, none⟩) n c) ?_
    refine rp 17 (.int .i64 ((i : Nat) : Int)) ?_
    refine rv 18 (.pointer (some ⟨gb, off + i * 1, none⟩)) (fun _ => ol_index 29 _ _ gb off i n c 1 5 rfl (by kernel_rfl) (by kernel_rfl) hlt.2 Try.underlying29 (by kernel_rfl)) ?_
    refine rv 19 (.int .u8 (b.getD i 0)) (fun _ => ol_cell 5 _ ⟨gb, off + i * 1, none⟩ _ _ rfl (by kernel_rfl) (by rw [Nat.mul_one]; exact hc) Try.underlying5 rfl) ?_
    refine rv 20 (.pointer (some ⟨g6, 0 + i * 1, none⟩)) (fun _ => ol_indexP 24 _ _ g6 0 i 32 1 5 rfl (by kernel_rfl) (by kernel_rfl) hlt.1 (by omega) Try.underlying24 (by kernel_rfl)) ?_
    refine rw_set1 g6 (0 + i * 1) (.int .u8 (b.getD i 0)) (fun _ => by kernel_rfl) (fun _ => ol_setC 5 _ _ g6 _ _ 24 _ hr8 rfl (by kernel_rfl) (by kernel_rfl) (by rw [B8_size, dg_len]; omega) rfl rfl (by kernel_rfl)) ?_
    intro w9 hs9
    have hne : ∀ g' off', (some ⟨gb, off, none⟩ : Option Addr) = some ⟨g', off', none⟩ → g' ≠ g6 := fun g' off' e => by cases e; have := hlb; omega
    replace h := h.tou hs9.touch hne
    replace hr4 := hr4.tou hs9.touch (by omega)
    replace hB := hB.tou hs9.touch hzg6
    have hr8n : Rw g6 w9 (B8 (dg b (i + 1))) 24 := by have := rw_set hr8 hs9; rw [show 0 + i * 1 = i by omega, dg_set (by omega) hlt.1] at this; exact this
    clear hr8
    rename Rw g6 w9 (B8 (dg b (i + 1))) 24 => hr8
    refine rw_nil ?_
    refine nw_block ?_
    refine nw_then ?_
    refine cw_region ?_
    refine rp 13 (.int .i64 ((i : Nat) : Int)) ?_
    refine rv 14 (.int .i64 (((i : Nat) : Int) + 1)) (fun _ => ol_conv (v := .int .i64 (IntKind.i64.wrap (((i : Nat) : Int) + 1))) (by kernel_rfl) (congrArg (Value.int .i64) (wrap64 (by omega) (by omega)))) ?_
    refine rp 4 (.int .i64 (((i : Nat) : Int) + 1)) ?_
    refine rw_nil ?_
    exact nw_round (E := fun i => [(4, .int .i64 ((i : Nat) : Int)), (3, .pointer (some ⟨g6, 0, none⟩)), (2, .pointer (some ⟨g2, 0, none⟩)), (0, .slice (some ⟨gb, off, none⟩) n c)]) (R := fun i v => Bl w v ∧ Rw g2 v (B8 z32) 24 ∧ Rw g6 v (B8 (dg b i)) 24 ∧ Ag v (some ⟨gb, off, none⟩) n c b ∧ i ≤ 32 ∧ i ≤ n) (μ := fun i => 32 - i) (x := i) (i + 1) (by exact ⟨fun _ => by kernel_rfl, ⟨fun _ => by kernel_rfl, ⟨fun _ => by kernel_rfl, ⟨fun _ => by kernel_rfl, trivial⟩⟩⟩⟩) ⟨hB, hr4, hr8, h, by omega, by omega⟩ (by show 32 - (i + 1) < 32 - i; omega)
  have hdg : dg b i = (b ++ List.replicate 32 0).take 32 := dg_all (by omega)
  by_cases h32 : i < 32
  · skip
    refine cw_seq ?_
    refine cw_seq ?_
    refine cw_region ?_
    refine rp 5 (.int .i64 ((i : Nat) : Int)) ?_
    refine rv 6 (.bool true) (fun _ => ol_conv (v := .bool (decide (((i : Nat) : Int) < (32 : Int)))) (by kernel_rfl) (congrArg Value.bool (decide_eq_true (by omega)))) ?_
    refine rp 7 (.bool true) ?_
    refine rp 8 (.int .i64 ((i : Nat) : Int)) ?_
    refine rp 9 (.slice x n c) ?_
    refine rp 10 (.int .i64 n) ?_
    refine rv 11 (.bool false) (fun _ => ol_conv (v := .bool (decide (((i : Nat) : Int) < (n : Int)))) (by kernel_rfl) (congrArg Value.bool (decide_eq_false (by omega)))) ?_
    refine rp 12 (.bool false) ?_
    refine rw_nil ?_
    refine nw_then ?_
    refine cw_cond_f (fun _ => by kernel_rfl) ?_
    refine cw_exit ?_
    refine nw_exit_then ?_
    refine nw_exit_then ?_
    refine nw_exit_here ?_
    refine nw_then ?_
    refine cw_seq ?_
    refine cw_region ?_
    refine rv 21 (.agg (B8 (dg b i))) (fun _ => ol_row 24 _ _ _ _ _ _ rfl (by kernel_rfl) hr8 Try.underlying24 rfl (infoD' (dg_len _ _))) ?_
    refine rw_put g2 (B8 (dg b i)) (fun _ => by kernel_rfl) (fun _ => ol_store 24 _ _ _ _ _ 24 rfl (by kernel_rfl) (by kernel_rfl) hr4 (infoD' (dg_len _ _)) ((B8_size _).trans ((show z32.length = 32 from rfl).trans ((dg_len _ _).symm.trans (B8_size _).symm))) (B8_one _)) ?_
    intro w9 hp10
    replace hB := hB.put hp10 hzg2
    replace hr4 := hr4.put hp10
    replace hr8 := hr8.past hp10 (by omega)
    refine rw_nil ?_
    refine nw_then ?_
    refine cw_ret ?_
    refine nw_ret_body (.agg (B8 (dg b i))) (fun _ => res_c1 rfl _ g2 _ (by kernel_rfl) hr4 Try.underlying24 rfl (infoD' (dg_len _ _))) ?_
    rw [hdg]
    exact ⟨_, rfl, rfl, hB⟩
  refine cw_seq ?_
  refine cw_seq ?_
  refine cw_region ?_
  refine rp 5 (.int .i64 ((i : Nat) : Int)) ?_
  refine rv 6 (.bool false) (fun _ => ol_conv (v := .bool (decide (((i : Nat) : Int) < (32 : Int)))) (by kernel_rfl) (congrArg Value.bool (decide_eq_false (by omega)))) ?_
  refine rp 7 (.bool false) ?_
  refine rw_off 8 (fun _ => by kernel_rfl) ?_
  refine rw_off 9 (fun _ => by kernel_rfl) ?_
  refine rw_off 10 (fun _ => by kernel_rfl) ?_
  refine rw_off 11 (fun _ => by kernel_rfl) ?_
  refine rp 12 (.bool false) ?_
  refine rw_nil ?_
  refine nw_then ?_
  refine cw_cond_f (fun _ => by kernel_rfl) ?_
  refine cw_exit ?_
  refine nw_exit_then ?_
  refine nw_exit_then ?_
  refine nw_exit_here ?_
  refine nw_then ?_
  refine cw_seq ?_
  refine cw_region ?_
  refine rv 21 (.agg (B8 (dg b i))) (fun _ => ol_row 24 _ _ _ _ _ _ rfl (by kernel_rfl) hr8 Try.underlying24 rfl (infoD' (dg_len _ _))) ?_
  refine rw_put g2 (B8 (dg b i)) (fun _ => by kernel_rfl) (fun _ => ol_store 24 _ _ _ _ _ 24 rfl (by kernel_rfl) (by kernel_rfl) hr4 (infoD' (dg_len _ _)) ((B8_size _).trans ((show z32.length = 32 from rfl).trans ((dg_len _ _).symm.trans (B8_size _).symm))) (B8_one _)) ?_
  intro w11 hp12
  replace hB := hB.put hp12 hzg2
  replace hr4 := hr4.put hp12
  replace hr8 := hr8.past hp12 (by omega)
  refine rw_nil ?_
  refine nw_then ?_
  refine cw_ret ?_
  refine nw_ret_body (.agg (B8 (dg b i))) (fun _ => res_c1 rfl _ g2 _ (by kernel_rfl) hr4 Try.underlying24 rfl (infoD' (dg_len _ _))) ?_
  rw [hdg]
  exact ⟨_, rfl, rfl, hB⟩
end Go.Proofs.Ytmaajddofmahpaa

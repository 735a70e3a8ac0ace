/- What the document's Decode of accounts answers; same. -/
import Derived.Test.YtmaajddofmahpaaG33
import Derived.Test.YtmaajddofmahpaaG22
namespace Go.Proofs.Ytmaajddofmahpaa
open Go.RowKit
open Di (dref)
set_option linter.unusedVariables false
set_option maxRecDepth 100000
theorem rd_lt {b : List Int} (hb : bytP b) : (Wo.rdP b).1 < W64 := by
  unfold Wo.rdP
  split
  · unfold W64; decide
  · rename_i hq
    have h8 : b.length ≤ 8 := by omega
    have := Wo.vl_lt b hb
    have h2 : 256 ^ b.length ≤ 256 ^ 8 := Nat.pow_le_pow_right (by omega) h8
    unfold W64
    simp only
    omega
def dd32 (b : List Int) : List Int := (b ++ List.replicate 32 0).take 32
theorem range_put {w w' : World} {g g' o : Nat} {cs : List Value} {cells : Array Value} (h : w.rangeAt g o cs) (hp : Put w w' g' cells) (hne : g ≠ g') : w'.rangeAt g o cs := fun j v hv => (World.cell?_of_block (w := w) (hp.other hne)).trans (h j v hv)
theorem rwdec_no {w : World} {a : Option Addr} {n c : Nat} {b : List Int} (h : Ag w a n c b) (hn : n ≤ 140737488351232) {t : T} (hd : decP b = .ok t) (h4 : t.its.length ≠ 4) : Calls Try.prog 30 #[.slice a n c] w fun e w' => ∃ v, e = .returned v ∧ (∃ y : V, v = .tuple #[.agg (IV y), .int .i64 0] ∧ y.m ≠ 4) ∧ Bl w w' :=
  (rwdec_ok h hn hd).mono fun e w' ⟨v, h1, ⟨y, h2, h3⟩, h5⟩ => ⟨v, h1, ⟨y, h2, by rw [(lies_un h3).2.2.1]; exact h4⟩, h5⟩
def R4 (w : World) (x0 x1 x2 x3 : T) : Value → World → Prop := fun v w' => (∃ (yl : Bool) (yba : Option Addr) (ybn ybc g off yic : Nat) (y0 y1 y2 y3 : V), v = .tuple #[.agg #[.bool yl, .slice yba ybn ybc, .slice (some ⟨g, off, none⟩) 4 yic], .int .i64 0] ∧ w'.rangeAt g (off + 0 * 3) (IL y0) ∧ w'.rangeAt g (off + 1 * 3) (IL y1) ∧ w'.rangeAt g (off + 2 * 3) (IL y2) ∧ w'.rangeAt g (off + 3 * 3) (IL y3) ∧ Lies w' x0 y0 ∧ Lies w' x1 y1 ∧ Lies w' x2 y2 ∧ Lies w' x3 y3) ∧ Bl w w'
theorem rwdec_4 {w : World} {a : Option Addr} {n c : Nat} {b : List Int} (h : Ag w a n c b) (hn : n ≤ 140737488351232) {t : T} (hd : decP b = .ok t) {x0 x1 x2 x3 : T} (hi : t.its = [x0, x1, x2, x3]) : Calls Try.prog 30 #[.slice a n c] w fun e w' => ∃ v, e = .returned v ∧ R4 w x0 x1 x2 x3 v w' := by
  refine (rwdec_ok h hn hd).mono ?_
  rintro e w' ⟨v, h1, ⟨y, rfl, h3⟩, h5⟩
  obtain ⟨z0, z1, z2, z3, g, off, y0, y1, y2, y3, hi2, ha, r0, r1, r2, r3, L0, L1, L2, L3⟩ := four h3 (by rw [(lies_un h3).2.2.1, hi]; rfl)
  have h4 : y.m = 4 := by rw [(lies_un h3).2.2.1, hi]; rfl
  rw [hi] at hi2
  cases hi2
  obtain ⟨yl, yba, ybn, ybc, yia, ym, yic⟩ := y
  simp only at ha h4
  subst ha h4
  exact ⟨_, h1, ⟨yl, yba, ybn, ybc, g, off, yic, y0, y1, y2, y3, rfl, r0, r1, r2, r3, L0, L1, L2, L3⟩, h5⟩
theorem wsame {w : World} {x1 x2 : Option Addr} {n1 c1 n2 c2 : Nat} {b1 b2 : List Int} (h1 : Ag w x1 n1 c1 b1) (h2 : Ag w x2 n2 c2 b2) : Calls Try.prog 10 #[.slice x1 n1 c1, .slice x2 n2 c2] w fun e w' => ∃ v, e = .returned v ∧ RVl w (.bool (decide (b1 = b2))) v w' := by
  have hB : Bl w w := Bl.refl w
  refine cw_enter Try.func10 rfl 10 rfl ?_
  show CW _ _ _ _ _ _ _ [(0, .slice x1 n1 c1), (1, .slice x2 n2 c2)] _
  refine cw_seq ?_
  refine cw_region ?_
  refine rp 4 (.bool false) ?_
  refine rw_nil ?_
  refine nw_then ?_
  refine cw_seq ?_
  refine cw_region ?_
  refine rp 5 (.slice x1 n1 c1) ?_
  refine rv 6 (.string (strOfNums b1)) (fun _ => h1.run_str _ _ _ rfl (by kernel_rfl)) ?_
  refine rp 7 (.slice x2 n2 c2) ?_
  refine rv 8 (.string (strOfNums b2)) (fun _ => h2.run_str _ _ _ rfl (by kernel_rfl)) ?_
  refine rv 9 (.bool (decide (b1 = b2))) (fun _ => ol_eqs 9 _ _ _ _ _ rfl (by kernel_rfl) (by kernel_rfl) (strs_eq h1.b h2.b)) ?_
  refine rp 4 (.bool (decide (b1 = b2))) ?_
  refine rw_nil ?_
  refine nw_then ?_
  refine cw_ret ?_
  refine nw_ret_body (.bool (decide (b1 = b2))) (fun _ => by kernel_rfl) ?_
  exact ⟨_, rfl, rfl, hB⟩
set_option maxHeartbeats 1000000 in
theorem rwde_bad {w : World} {x : Option Addr} {n c : Nat} {b : List Int} (h : Ag w x n c b) (hn : n ≤ 140737488351232) {e0 : Nat} (hd : decP b = .bad e0) : Calls Try.prog 16 #[.slice x n c] w fun e w' => ∃ v, e = .returned v ∧ RVl w (.tuple #[.agg (AV ((deA b).getD zA)).toArray, .int .i64 (if (deA b).isSome then 0 else 120)]) v w' := by
  rw [← dd_eq h.b]
  have e : ddA b = none := by unfold ddA; rw [hd]
  rw [e]
  have hlow : ∀ g off, x = some ⟨g, off, none⟩ → 0 < n → g < w.heap.size := fun g off e h0 => by obtain ⟨g1, o1, e1, _, _, hc⟩ := ag_head h h0; rw [e] at e1; cases e1; exact block_lt_of_cell (hc 0 h0)
  have hB : Bl w w := Bl.refl w
  refine cw_enter Try.func16 rfl 74 rfl ?_
  show CW _ _ _ _ _ _ _ [(0, .slice x n c)] _
  refine cw_seq ?_
  refine cw_region ?_
  refine rw_new 2 ((AV zA).toArray) 26 (fun _ => by kernel_rfl) (fun _ => by kernel_rfl) ?_
  intro w1 g2 hn3
  have hzg2 : w.heap.size ≤ g2 := by have := hB.size; have := hn3.hg; omega
  replace hB := hB.go hn3.below
  replace h := h.go hn3.below
  have hr4 : Rw g2 w1 ((AV zA).toArray) 26 := hn3.row
  refine rp 3 (.int .i64 0) ?_
  refine rw_nil ?_
  refine nw_then ?_
  refine cw_seq ?_
  refine cw_region ?_
  refine rp 12 (.slice x n c) ?_
  refine rw_call 13 30 #[.slice x n c] (fun _ => by kernel_rfl) (fun _ => by kernel_rfl) (R := fun v w' => (∃ (y : V) (er : Nat), v = .tuple #[.agg (IV y), .int .i64 (er : Nat)] ∧ er ≠ 0) ∧ Bl w1 w') (rwdec_bad h hn hd) ?_
  rintro _ w7 ⟨⟨y5, er6, rfl, hx8⟩, hb9⟩
  replace hB := hB.go hb9
  replace h := h.go hb9
  replace hr4 := hr4.go hb9
  refine rp 11 (.tuple #[.agg (IV y5), .int .i64 er6]) ?_
  refine rp 14 (.agg (IV y5)) ?_
  refine rp 15 (.int .i64 er6) ?_
  refine rw_new 4 (#[.bool false, .slice none 0 0, .slice none 0 0]) 46 (fun _ => by kernel_rfl) (fun _ => by kernel_rfl) ?_
  intro w10 g11 hn12
  have hr13 : Rw g11 w10 (#[.bool false, .slice none 0 0, .slice none 0 0]) 46 := hn12.row
  refine rw_put g11 (IV y5) (fun _ => by kernel_rfl) (fun _ => ol_store 46 _ _ _ _ _ 46 rfl (by kernel_rfl) (by kernel_rfl) hr13 (by kernel_rfl) (by kernel_rfl) (by kernel_rfl)) ?_
  intro w14 hp15
  have hbg11 : Below w7.heap.size w7 w14 := hp15.below hn12.below (Nat.le_of_eq hn12.hg.symm) (by have := hn12.size; have := hn12.hg; omega)
  have hzg11 : w.heap.size ≤ g11 := by have := hB.size; have := hn12.hg; omega
  replace hB := hB.go hbg11
  replace h := h.go hbg11
  replace hr4 := hr4.go hbg11
  have hr16 : Rw g11 w14 (IV y5) 46 := hr13.put hp15
  refine rp 5 (.int .i64 er6) ?_
  refine rw_nil ?_
  refine nw_then ?_
  refine cw_seq ?_
  refine cw_seq ?_
  refine cw_region ?_
  refine rp 16 (.int .i64 er6) ?_
  refine rv 17 (.bool true) (fun _ => ol_conv (v := .bool (!((er6 : Int) == (0 : Int)))) (by kernel_rfl) (congrArg Value.bool (by rw [Bool.not_eq_true', beq_eq_false_iff_ne]; omega))) ?_
  refine rp 18 (.bool true) ?_
  refine rw_off 19 (fun _ => by kernel_rfl) ?_
  refine rw_off 20 (fun _ => by kernel_rfl) ?_
  refine rw_off 21 (fun _ => by kernel_rfl) ?_
  refine rw_off 22 (fun _ => by kernel_rfl) ?_
  refine rp 23 (.bool true) ?_
  refine rw_nil ?_
  refine nw_then ?_
  refine cw_cond_t (fun _ => by kernel_rfl) ?_
  refine cw_seq ?_
  refine cw_region ?_
  refine rv 24 (.agg (AV zA).toArray) (fun _ => ol_build 26 _ rfl [] (by kernel_rfl) _ built_Az) ?_
  refine rw_put g2 ((AV zA).toArray) (fun _ => by kernel_rfl) (fun _ => ol_store 26 _ _ _ _ _ 26 rfl (by kernel_rfl) (by kernel_rfl) hr4 (infoA zA_ok) (AV_size zA_ok zA_ok) (AV_one _)) ?_
  intro w17 hp18
  replace hB := hB.put hp18 hzg2
  replace hr4 := hr4.put hp18
  refine rp 3 (.int .i64 120) ?_
  refine rw_nil ?_
  refine nw_then ?_
  refine cw_ret ?_
  refine nw_ret_then ?_
  refine nw_ret_body (.tuple #[.agg ((AV zA).toArray), .int .i64 120]) (fun _ => res_c2 rfl _ g2 _ _ (by kernel_rfl) (by kernel_rfl) hr4 Try.underlying26 rfl (infoA zA_ok)) ?_
  exact ⟨_, rfl, rfl, hB⟩
set_option maxHeartbeats 1000000 in
theorem rwde_no {w : World} {x : Option Addr} {n c : Nat} {b : List Int} (h : Ag w x n c b) (hn : n ≤ 140737488351232) {t : T} (hd : decP b = .ok t) (h4 : t.its.length ≠ 4) : Calls Try.prog 16 #[.slice x n c] w fun e w' => ∃ v, e = .returned v ∧ RVl w (.tuple #[.agg (AV ((deA b).getD zA)).toArray, .int .i64 (if (deA b).isSome then 0 else 120)]) v w' := by
  rw [← dd_eq h.b]
  have e : ddA b = none := by
    unfold ddA
    rw [hd]
    simp only
    split
    · rename_i hi; rw [hi] at h4; simp at h4
    · rfl
  rw [e]
  have hlow : ∀ g off, x = some ⟨g, off, none⟩ → 0 < n → g < w.heap.size := fun g off e h0 => by obtain ⟨g1, o1, e1, _, _, hc⟩ := ag_head h h0; rw [e] at e1; cases e1; exact block_lt_of_cell (hc 0 h0)
  have hB : Bl w w := Bl.refl w
  refine cw_enter Try.func16 rfl 74 rfl ?_
  show CW _ _ _ _ _ _ _ [(0, .slice x n c)] _
  refine cw_seq ?_
  refine cw_region ?_
  refine rw_new 2 ((AV zA).toArray) 26 (fun _ => by kernel_rfl) (fun _ => by kernel_rfl) ?_
  intro w1 g2 hn3
  have hzg2 : w.heap.size ≤ g2 := by have := hB.size; have := hn3.hg; omega
  replace hB := hB.go hn3.below
  replace h := h.go hn3.below
  have hr4 : Rw g2 w1 ((AV zA).toArray) 26 := hn3.row
  refine rp 3 (.int .i64 0) ?_
  refine rw_nil ?_
  refine nw_then ?_
  refine cw_seq ?_
  refine cw_region ?_
  refine rp 12 (.slice x n c) ?_
  refine rw_call 13 30 #[.slice x n c] (fun _ => by kernel_rfl) (fun _ => by kernel_rfl) (R := fun v w' => (∃ y : V, v = .tuple #[.agg (IV y), .int .i64 0] ∧ y.m ≠ 4) ∧ Bl w1 w') (rwdec_no h hn hd h4) ?_
  rintro _ w7 ⟨⟨y5, rfl, hx8⟩, hb9⟩
  replace hB := hB.go hb9
  replace h := h.go hb9
  replace hr4 := hr4.go hb9
  refine rp 11 (.tuple #[.agg (IV y5), .int .i64 0]) ?_
  refine rp 14 (.agg (IV y5)) ?_
  refine rp 15 (.int .i64 0) ?_
  refine rw_new 4 (#[.bool false, .slice none 0 0, .slice none 0 0]) 46 (fun _ => by kernel_rfl) (fun _ => by kernel_rfl) ?_
  intro w10 g11 hn12
  have hr13 : Rw g11 w10 (#[.bool false, .slice none 0 0, .slice none 0 0]) 46 := hn12.row
  refine rw_put g11 (IV y5) (fun _ => by kernel_rfl) (fun _ => ol_store 46 _ _ _ _ _ 46 rfl (by kernel_rfl) (by kernel_rfl) hr13 (by kernel_rfl) (by kernel_rfl) (by kernel_rfl)) ?_
  intro w14 hp15
  have hbg11 : Below w7.heap.size w7 w14 := hp15.below hn12.below (Nat.le_of_eq hn12.hg.symm) (by have := hn12.size; have := hn12.hg; omega)
  have hzg11 : w.heap.size ≤ g11 := by have := hB.size; have := hn12.hg; omega
  replace hB := hB.go hbg11
  replace h := h.go hbg11
  replace hr4 := hr4.go hbg11
  have hr16 : Rw g11 w14 (IV y5) 46 := hr13.put hp15
  refine rp 5 (.int .i64 0) ?_
  refine rw_nil ?_
  refine nw_then ?_
  refine cw_seq ?_
  refine cw_seq ?_
  refine cw_region ?_
  refine rp 16 (.int .i64 0) ?_
  refine rp 17 (.bool false) ?_
  refine rp 18 (.bool false) ?_
  refine rp 19 (.pointer (some ⟨g11, 2, none⟩)) ?_
  refine rv 20 (.slice y5.ia y5.m y5.ic) (fun _ => ol_cell 44 _ ⟨g11, 2, none⟩ _ _ rfl (by kernel_rfl) (by rw [cell_of_row _ _ _ _ _ _ hr16]; rfl) Try.underlying44 rfl) ?_
  refine rp 21 (.int .i64 y5.m) ?_
  refine rv 22 (.bool true) (fun _ => ol_conv (v := .bool (!((y5.m : Int) == (4 : Int)))) (by kernel_rfl) (congrArg Value.bool (by rw [Bool.not_eq_true', beq_eq_false_iff_ne]; omega))) ?_
  refine rp 23 (.bool true) ?_
  refine rw_nil ?_
  refine nw_then ?_
  refine cw_cond_t (fun _ => by kernel_rfl) ?_
  refine cw_seq ?_
  refine cw_region ?_
  refine rv 24 (.agg (AV zA).toArray) (fun _ => ol_build 26 _ rfl [] (by kernel_rfl) _ built_Az) ?_
  refine rw_put g2 ((AV zA).toArray) (fun _ => by kernel_rfl) (fun _ => ol_store 26 _ _ _ _ _ 26 rfl (by kernel_rfl) (by kernel_rfl) hr4 (infoA zA_ok) (AV_size zA_ok zA_ok) (AV_one _)) ?_
  intro w17 hp18
  replace hB := hB.put hp18 hzg2
  replace hr4 := hr4.put hp18
  refine rp 3 (.int .i64 120) ?_
  refine rw_nil ?_
  refine nw_then ?_
  refine cw_ret ?_
  refine nw_ret_then ?_
  refine nw_ret_body (.tuple #[.agg ((AV zA).toArray), .int .i64 120]) (fun _ => res_c2 rfl _ g2 _ _ (by kernel_rfl) (by kernel_rfl) hr4 Try.underlying26 rfl (infoA zA_ok)) ?_
  exact ⟨_, rfl, rfl, hB⟩
set_option maxHeartbeats 1000000 in
theorem rwde_four {w : World} {x : Option Addr} {n c : Nat} {b : List Int} (h : Ag w x n c b) (hn : n ≤ 140737488351232) {t : T} (hd : decP b = .ok t) {x0 x1 x2 x3 : T} (hi : t.its = [x0, x1, x2, x3]) : Calls Try.prog 16 #[.slice x n c] w fun e w' => ∃ v, e = .returned v ∧ RVl w (.tuple #[.agg (AV ((deA b).getD zA)).toArray, .int .i64 (if (deA b).isSome then 0 else 120)]) v w' := by
  rw [← dd_eq h.b]
  have hlow : ∀ g off, x = some ⟨g, off, none⟩ → 0 < n → g < w.heap.size := fun g off e h0 => by obtain ⟨g1, o1, e1, _, _, hc⟩ := ag_head h h0; rw [e] at e1; cases e1; exact block_lt_of_cell (hc 0 h0)
  have hB : Bl w w := Bl.refl w
  refine cw_enter Try.func16 rfl 74 rfl ?_
  show CW _ _ _ _ _ _ _ [(0, .slice x n c)] _
  have hbb := h.b
  refine cw_seq ?_
  refine cw_region ?_
  refine rw_new 2 ((AV zA).toArray) 26 (fun _ => by kernel_rfl) (fun _ => by kernel_rfl) ?_
  intro w1 g2 hn3
  have hzg2 : w.heap.size ≤ g2 := by have := hB.size; have := hn3.hg; omega
  replace hB := hB.go hn3.below
  replace h := h.go hn3.below
  have hr4 : Rw g2 w1 ((AV zA).toArray) 26 := hn3.row
  refine rp 3 (.int .i64 0) ?_
  refine rw_nil ?_
  refine nw_then ?_
  refine cw_seq ?_
  refine cw_region ?_
  refine rp 12 (.slice x n c) ?_
  refine rw_call 13 30 #[.slice x n c] (fun _ => by kernel_rfl) (fun _ => by kernel_rfl) (R := R4 w1 x0 x1 x2 x3) (rwdec_4 h hn hd hi) ?_
  rintro _ w7 ⟨⟨yl, yba, ybn, ybc, g, off, yic, y0, y1, y2, y3, rfl, r0, r1, r2, r3, L0, L1, L2, L3⟩, hb9⟩
  replace hB := hB.go hb9
  replace h := h.go hb9
  replace hr4 := hr4.go hb9
  have A0 := (lies_un L0).2.1
  have N0 := (lies_un L0).2.2.2.1
  have A1 := (lies_un L1).2.1
  have N1 := (lies_un L1).2.2.2.1
  have A2 := (lies_un L2).2.1
  have N2 := (lies_un L2).2.2.2.1
  have A3 := (lies_un L3).2.1
  have N3 := (lies_un L3).2.2.2.1
  have hok : okA (⟨(Wo.rdP x0.bs).1, (Wo.rdP x1.bs).1, dd32 x2.bs, dd32 x3.bs⟩ : PA) := ⟨rd_lt A0.b, rd_lt A1.b, (dig32 A2.b).1, (dig32 A2.b).2, (dig32 A3.b).1, (dig32 A3.b).2⟩
  clear L0 L1 L2 L3
  refine rp 11 (.tuple #[.agg #[.bool yl, .slice yba ybn ybc, .slice (some ⟨g, off, none⟩) 4 yic], .int .i64 0]) ?_
  refine rp 14 (.agg #[.bool yl, .slice yba ybn ybc, .slice (some ⟨g, off, none⟩) 4 yic]) ?_
  refine rp 15 (.int .i64 0) ?_
  refine rw_new 4 (#[.bool false, .slice none 0 0, .slice none 0 0]) 46 (fun _ => by kernel_rfl) (fun _ => by kernel_rfl) ?_
  intro w10 g11 hn12
  have hr13 : Rw g11 w10 (#[.bool false, .slice none 0 0, .slice none 0 0]) 46 := hn12.row
  refine rw_put g11 (#[.bool yl, .slice yba ybn ybc, .slice (some ⟨g, off, none⟩) 4 yic]) (fun _ => by kernel_rfl) (fun _ => ol_store 46 _ _ _ _ _ 46 rfl (by kernel_rfl) (by kernel_rfl) hr13 (by kernel_rfl) (by kernel_rfl) (by kernel_rfl)) ?_
  intro w14 hp15
  have hbg11 : Below w7.heap.size w7 w14 := hp15.below hn12.below (Nat.le_of_eq hn12.hg.symm) (by have := hn12.size; have := hn12.hg; omega)
  have hzg11 : w.heap.size ≤ g11 := by have := hB.size; have := hn12.hg; omega
  replace hB := hB.go hbg11
  replace h := h.go hbg11
  replace hr4 := hr4.go hbg11
  replace r0 := range_go r0 hbg11
  replace A0 := A0.go hbg11
  replace r1 := range_go r1 hbg11
  replace A1 := A1.go hbg11
  replace r2 := range_go r2 hbg11
  replace A2 := A2.go hbg11
  replace r3 := range_go r3 hbg11
  replace A3 := A3.go hbg11
  have hr16 : Rw g11 w14 (#[.bool yl, .slice yba ybn ybc, .slice (some ⟨g, off, none⟩) 4 yic]) 46 := hr13.put hp15
  refine rp 5 (.int .i64 0) ?_
  refine rw_nil ?_
  refine nw_then ?_
  refine cw_seq ?_
  refine cw_seq ?_
  refine cw_region ?_
  refine rp 16 (.int .i64 0) ?_
  refine rp 17 (.bool false) ?_
  refine rp 18 (.bool false) ?_
  refine rp 19 (.pointer (some ⟨g11, 2, none⟩)) ?_
  refine rv 20 (.slice (some ⟨g, off, none⟩) 4 yic) (fun _ => ol_cell 44 _ ⟨g11, 2, none⟩ _ _ rfl (by kernel_rfl) (by rw [cell_of_row _ _ _ _ _ _ hr16]; rfl) Try.underlying44 rfl) ?_
  refine rp 21 (.int .i64 4) ?_
  refine rp 22 (.bool false) ?_
  refine rp 23 (.bool false) ?_
  refine rw_nil ?_
  refine nw_then ?_
  refine cw_cond_f (fun _ => by kernel_rfl) ?_
  refine cw_skip ?_
  refine nw_then ?_
  refine cw_seq ?_
  refine cw_region ?_
  refine rp 26 (.pointer (some ⟨g11, 2, none⟩)) ?_
  refine rv 27 (.slice (some ⟨g, off, none⟩) 4 yic) (fun _ => ol_cell 44 _ ⟨g11, 2, none⟩ _ _ rfl (by kernel_rfl) (by rw [cell_of_row _ _ _ _ _ _ hr16]; rfl) Try.underlying44 rfl) ?_
  refine rv 28 (.pointer (some ⟨g, off + 0 * 3, none⟩)) (fun _ => ol_index 44 _ _ g off 0 4 yic 3 46 rfl (by kernel_rfl) (by kernel_rfl) (by omega) Try.underlying44 (by kernel_rfl)) ?_
  refine rp 29 (.pointer (some ⟨g, off + 0 * 3 + 1, none⟩)) ?_
  refine rv 30 (.slice y0.ba y0.bn y0.bc) (fun _ => ol_cell 29 _ ⟨g, off + 0 * 3 + 1, none⟩ _ _ rfl (by kernel_rfl) (r0 1 _ rfl) Try.underlying29 rfl) ?_
  refine rw_call 31 31 #[.slice y0.ba y0.bn y0.bc] (fun _ => by kernel_rfl) (fun _ => by kernel_rfl) (R := RVl w14 (.tuple #[.int .u64 (((Wo.rdP x0.bs).1 : Nat) : Int), .bool (Wo.rdP x0.bs).2])) (rwread A0 N0) ?_
  rintro _ w17 ⟨rfl, hb18⟩
  replace hB := hB.go hb18
  replace h := h.go hb18
  replace hr4 := hr4.go hb18
  replace r0 := range_go r0 hb18
  replace A0 := A0.go hb18
  replace r1 := range_go r1 hb18
  replace A1 := A1.go hb18
  replace r2 := range_go r2 hb18
  replace A2 := A2.go hb18
  replace r3 := range_go r3 hb18
  replace A3 := A3.go hb18
  replace hr16 := hr16.go hb18
  refine rp 25 (.tuple #[.int .u64 (((Wo.rdP x0.bs).1 : Nat) : Int), .bool (Wo.rdP x0.bs).2]) ?_
  refine rp 32 (.int .u64 (((Wo.rdP x0.bs).1 : Nat) : Int)) ?_
  refine rp 33 (.bool (Wo.rdP x0.bs).2) ?_
  refine rp 6 (.int .u64 (((Wo.rdP x0.bs).1 : Nat) : Int)) ?_
  refine rp 7 (.bool (Wo.rdP x0.bs).2) ?_
  refine rw_nil ?_
  refine nw_then ?_
  refine cw_seq ?_
  refine cw_region ?_
  refine rp 35 (.pointer (some ⟨g11, 2, none⟩)) ?_
  refine rv 36 (.slice (some ⟨g, off, none⟩) 4 yic) (fun _ => ol_cell 44 _ ⟨g11, 2, none⟩ _ _ rfl (by kernel_rfl) (by rw [cell_of_row _ _ _ _ _ _ hr16]; rfl) Try.underlying44 rfl) ?_
  refine rv 37 (.pointer (some ⟨g, off + 1 * 3, none⟩)) (fun _ => ol_index 44 _ _ g off 1 4 yic 3 46 rfl (by kernel_rfl) (by kernel_rfl) (by omega) Try.underlying44 (by kernel_rfl)) ?_
  refine rp 38 (.pointer (some ⟨g, off + 1 * 3 + 1, none⟩)) ?_
  refine rv 39 (.slice y1.ba y1.bn y1.bc) (fun _ => ol_cell 29 _ ⟨g, off + 1 * 3 + 1, none⟩ _ _ rfl (by kernel_rfl) (r1 1 _ rfl) Try.underlying29 rfl) ?_
  refine rw_call 40 31 #[.slice y1.ba y1.bn y1.bc] (fun _ => by kernel_rfl) (fun _ => by kernel_rfl) (R := RVl w17 (.tuple #[.int .u64 (((Wo.rdP x1.bs).1 : Nat) : Int), .bool (Wo.rdP x1.bs).2])) (rwread A1 N1) ?_
  rintro _ w19 ⟨rfl, hb20⟩
  replace hB := hB.go hb20
  replace h := h.go hb20
  replace hr4 := hr4.go hb20
  replace r0 := range_go r0 hb20
  replace A0 := A0.go hb20
  replace r1 := range_go r1 hb20
  replace A1 := A1.go hb20
  replace r2 := range_go r2 hb20
  replace A2 := A2.go hb20
  replace r3 := range_go r3 hb20
  replace A3 := A3.go hb20
  replace hr16 := hr16.go hb20
  refine rp 34 (.tuple #[.int .u64 (((Wo.rdP x1.bs).1 : Nat) : Int), .bool (Wo.rdP x1.bs).2]) ?_
  refine rp 41 (.int .u64 (((Wo.rdP x1.bs).1 : Nat) : Int)) ?_
  refine rp 42 (.bool (Wo.rdP x1.bs).2) ?_
  refine rp 8 (.int .u64 (((Wo.rdP x1.bs).1 : Nat) : Int)) ?_
  refine rp 9 (.bool (Wo.rdP x1.bs).2) ?_
  refine rw_nil ?_
  refine nw_then ?_
  refine cw_seq ?_
  refine cw_cut (fun E v => ∃ g10, E = [(0, .slice x n c), (2, .pointer (some ⟨g2, 0, none⟩)), (3, .int .i64 0), (7, .bool (Wo.rdP x0.bs).2), (9, .bool (Wo.rdP x1.bs).2), (10, .pointer (some ⟨g10, 0, none⟩))] ∧ Rw g10 v (AV (⟨(Wo.rdP x0.bs).1, (Wo.rdP x1.bs).1, dd32 x2.bs, dd32 x3.bs⟩ : PA)).toArray 26 ∧ Rw g2 v (AV zA).toArray 26 ∧ Bl w v ∧ Ag v x n c b ∧ g2 < g10) ?_ ?_
  · skip
    refine cw_draw (fun v => Rw g11 v (#[.bool yl, .slice yba ybn ybc, .slice (some ⟨g, off, none⟩) 4 yic]) 46 ∧ v.rangeAt g (off + 2 * 3) (IL y2) ∧ v.rangeAt g (off + 3 * 3) (IL y3)) (by kernel_rfl) (⟨hr16, r2, r3⟩) ?_
    replace hB := hB.go (Below.refl _ _).drew
    replace h := h.go (Below.refl _ _).drew
    replace hr4 := hr4.go (Below.refl _ _).drew
    replace r0 := range_go r0 (Below.refl _ _).drew
    replace A0 := A0.go (Below.refl _ _).drew
    replace r1 := range_go r1 (Below.refl _ _).drew
    replace A1 := A1.go (Below.refl _ _).drew
    replace r2 := range_go r2 (Below.refl _ _).drew
    replace A2 := A2.go (Below.refl _ _).drew
    replace r3 := range_go r3 (Below.refl _ _).drew
    replace A3 := A3.go (Below.refl _ _).drew
    replace hr16 := hr16.go (Below.refl _ _).drew
    refine dt 0 43 (.int .u64 (((Wo.rdP x0.bs).1 : Nat) : Int)) (fun v hv _ => by kernel_rfl) ⟨hr16, r2, r3⟩ ?_
    refine dt 1 44 (.int .u64 (((Wo.rdP x1.bs).1 : Nat) : Int)) (fun v hv _ => by kernel_rfl) ⟨hr16, r2, r3⟩ ?_
    refine dt 2 45 (.pointer (some ⟨g11, 2, none⟩)) (fun v hv _ => by kernel_rfl) ⟨hr16, r2, r3⟩ ?_
    refine dt 3 46 (.slice (some ⟨g, off, none⟩) 4 yic) (fun v hv _ => ol_cell 44 _ ⟨g11, 2, none⟩ _ _ rfl (by kernel_rfl) (by rw [cell_of_row _ _ _ _ _ _ hv.1]; rfl) Try.underlying44 rfl) ⟨hr16, r2, r3⟩ ?_
    refine dt 4 47 (.pointer (some ⟨g, off + 2 * 3, none⟩)) (fun v hv => (fun _ => ol_index 44 _ _ g off 2 4 yic 3 46 rfl (by kernel_rfl) (by kernel_rfl) (by omega) Try.underlying44 (by kernel_rfl))) ⟨hr16, r2, r3⟩ ?_
    refine dt 5 48 (.pointer (some ⟨g, off + 2 * 3 + 1, none⟩)) (fun v hv _ => by kernel_rfl) ⟨hr16, r2, r3⟩ ?_
    refine dt 6 49 (.slice y2.ba y2.bn y2.bc) (fun v hv _ => ol_cell 29 _ ⟨g, off + 2 * 3 + 1, none⟩ _ _ rfl (by kernel_rfl) (hv.2.1 1 _ rfl) Try.underlying29 rfl) ⟨hr16, r2, r3⟩ ?_
    refine dt 8 51 (.pointer (some ⟨g11, 2, none⟩)) (fun v hv _ => by kernel_rfl) ⟨hr16, r2, r3⟩ ?_
    refine dt 9 52 (.slice (some ⟨g, off, none⟩) 4 yic) (fun v hv _ => ol_cell 44 _ ⟨g11, 2, none⟩ _ _ rfl (by kernel_rfl) (by rw [cell_of_row _ _ _ _ _ _ hv.1]; rfl) Try.underlying44 rfl) ⟨hr16, r2, r3⟩ ?_
    refine dt 10 53 (.pointer (some ⟨g, off + 3 * 3, none⟩)) (fun v hv => (fun _ => ol_index 44 _ _ g off 3 4 yic 3 46 rfl (by kernel_rfl) (by kernel_rfl) (by omega) Try.underlying44 (by kernel_rfl))) ⟨hr16, r2, r3⟩ ?_
    refine dt 11 54 (.pointer (some ⟨g, off + 3 * 3 + 1, none⟩)) (fun v hv _ => by kernel_rfl) ⟨hr16, r2, r3⟩ ?_
    refine dt 12 55 (.slice y3.ba y3.bn y3.bc) (fun v hv _ => ol_cell 29 _ ⟨g, off + 3 * 3 + 1, none⟩ _ _ rfl (by kernel_rfl) (hv.2.2 1 _ rfl) Try.underlying29 rfl) ⟨hr16, r2, r3⟩ ?_
    refine dw_ready [7, 15] (by kernel_rfl) (by simp) ?_
    refine ar_call 7 50 32 #[.slice y2.ba y2.bn y2.bc] rfl (fun _ => by kernel_rfl) (fun _ => by kernel_rfl) (R := RVl w19.drew (.agg (B8 (dd32 x2.bs)))) (rwdig A2 N2) (fun u w' h9 => ⟨hr16.go h9.2, range_go r2 h9.2, range_go r3 h9.2⟩) ?_ ?_
    · skip
      rintro _ w21 ⟨rfl, hb22⟩
      replace hB := hB.go hb22
      replace h := h.go hb22
      replace hr4 := hr4.go hb22
      replace r0 := range_go r0 hb22
      replace A0 := A0.go hb22
      replace r1 := range_go r1 hb22
      replace A1 := A1.go hb22
      replace r2 := range_go r2 hb22
      replace A2 := A2.go hb22
      replace r3 := range_go r3 hb22
      replace A3 := A3.go hb22
      replace hr16 := hr16.go hb22
      refine dw_ready [13, 15] (by kernel_rfl) (by simp) ?_
      refine ar_call 13 56 32 #[.slice y3.ba y3.bn y3.bc] rfl (fun _ => by kernel_rfl) (fun _ => by kernel_rfl) (R := RVl w21 (.agg (B8 (dd32 x3.bs)))) (rwdig A3 N3) (fun u w' h9 => ⟨hr16.go h9.2, range_go r2 h9.2, range_go r3 h9.2⟩) ?_ ?_
      · skip
        rintro _ w23 ⟨rfl, hb24⟩
        replace hB := hB.go hb24
        replace h := h.go hb24
        replace hr4 := hr4.go hb24
        replace r0 := range_go r0 hb24
        replace A0 := A0.go hb24
        replace r1 := range_go r1 hb24
        replace A1 := A1.go hb24
        replace r2 := range_go r2 hb24
        replace A2 := A2.go hb24
        replace r3 := range_go r3 hb24
        replace A3 := A3.go hb24
        replace hr16 := hr16.go hb24
        refine dt 14 57 (.agg (AV (⟨(Wo.rdP x0.bs).1, (Wo.rdP x1.bs).1, dd32 x2.bs, dd32 x3.bs⟩ : PA)).toArray) (fun v hv => (fun _ => ol_build 26 _ rfl [(0, .int .u64 (((Wo.rdP x0.bs).1 : Nat) : Int)), (1, .int .u64 (((Wo.rdP x1.bs).1 : Nat) : Int)), (2, .agg (B8 (dd32 x2.bs))), (3, .agg (B8 (dd32 x3.bs)))] (by kernel_rfl) _ (built_Aw ((Wo.rdP x0.bs).1) ((Wo.rdP x1.bs).1) (dd32 x2.bs) (dd32 x3.bs) (dig32 A2.b).1 (dig32 A3.b).1))) ⟨hr16, r2, r3⟩ ?_
        refine dw_ready [15] (by kernel_rfl) (by simp) ?_
        refine ar_new 15 10 ((AV zA).toArray) 26 rfl (fun _ => by kernel_rfl) (fun _ => by kernel_rfl) (fun w' g_ h => ⟨hr16.go h.below, range_go r2 h.below, range_go r3 h.below⟩) ?_ ar_nil
        intro w25 g26 hn27
        have hzg10 : w.heap.size ≤ g26 := by have := hB.size; have := hn27.hg; omega
        have hl10 : g11 < g26 := by have := hr16.lt; have := hn27.hg; omega
        have hl2 : g2 < g26 := by have := hr4.lt; have := hn27.hg; omega
        have hlg : g < g26 := by have : g < _ := block_lt_of_cell (r2 0 _ rfl); have := hn27.hg; omega
        replace hB := hB.go hn27.below
        replace h := h.go hn27.below
        replace hr4 := hr4.go hn27.below
        replace r0 := range_go r0 hn27.below
        replace A0 := A0.go hn27.below
        replace r1 := range_go r1 hn27.below
        replace A1 := A1.go hn27.below
        replace r2 := range_go r2 hn27.below
        replace A2 := A2.go hn27.below
        replace r3 := range_go r3 hn27.below
        replace A3 := A3.go hn27.below
        replace hr16 := hr16.go hn27.below
        have hr28 : Rw g26 w25 (AV zA).toArray 26 := hn27.row
        refine dw_ready [16] (by kernel_rfl) (by simp) ?_
        refine ar_put 16 g26 ((AV (⟨(Wo.rdP x0.bs).1, (Wo.rdP x1.bs).1, dd32 x2.bs, dd32 x3.bs⟩ : PA)).toArray) rfl (fun _ => by kernel_rfl) (fun _ => ol_store 26 _ _ _ _ _ 26 rfl (by kernel_rfl) (by kernel_rfl) hr28 (infoA hok) (AV_size zA_ok hok) (AV_one _)) (fun w' hp => ⟨hr16.past hp (by omega), range_put r2 hp (by omega), range_put r3 hp (by omega)⟩) ?_ ar_nil
        intro w29 hp30
        replace hB := hB.put hp30 hzg10
        replace hr28 := hr28.put hp30
        replace hr4 := hr4.past hp30 (by omega)
        replace h : Ag w29 x n c b := ag_keep h fun g' off' e1 e2 _ => hp30.other (by have := hlow g' off' e1 e2; omega)
        refine dw_done (by kernel_rfl) ?_
        exact nw_cut [(0, .slice x n c), (2, .pointer (some ⟨g2, 0, none⟩)), (3, .int .i64 0), (7, .bool (Wo.rdP x0.bs).2), (9, .bool (Wo.rdP x1.bs).2), (10, .pointer (some ⟨g26, 0, none⟩))] (by exact ⟨fun _ => by kernel_rfl, ⟨fun _ => by kernel_rfl, ⟨fun _ => by kernel_rfl, ⟨fun _ => by kernel_rfl, ⟨fun _ => by kernel_rfl, ⟨fun _ => by kernel_rfl, trivial⟩⟩⟩⟩⟩⟩) ⟨g26, rfl, hr28, hr4, hB, h, by omega⟩
      refine ar_new 15 10 ((AV zA).toArray) 26 rfl (fun _ => by kernel_rfl) (fun _ => by kernel_rfl) (fun w' g_ h => ⟨hr16.go h.below, range_go r2 h.below, range_go r3 h.below⟩) ?_ ar_nil
      intro w31 g32 hn33
      have hzg10 : w.heap.size ≤ g32 := by have := hB.size; have := hn33.hg; omega
      have hl10 : g11 < g32 := by have := hr16.lt; have := hn33.hg; omega
      have hl2 : g2 < g32 := by have := hr4.lt; have := hn33.hg; omega
      have hlg : g < g32 := by have : g < _ := block_lt_of_cell (r2 0 _ rfl); have := hn33.hg; omega
      replace hB := hB.go hn33.below
      replace h := h.go hn33.below
      replace hr4 := hr4.go hn33.below
      replace r0 := range_go r0 hn33.below
      replace A0 := A0.go hn33.below
      replace r1 := range_go r1 hn33.below
      replace A1 := A1.go hn33.below
      replace r2 := range_go r2 hn33.below
      replace A2 := A2.go hn33.below
      replace r3 := range_go r3 hn33.below
      replace A3 := A3.go hn33.below
      replace hr16 := hr16.go hn33.below
      have hr34 : Rw g32 w31 (AV zA).toArray 26 := hn33.row
      refine dw_ready [13] (by kernel_rfl) (by simp) ?_
      refine ar_call 13 56 32 #[.slice y3.ba y3.bn y3.bc] rfl (fun _ => by kernel_rfl) (fun _ => by kernel_rfl) (R := RVl w31 (.agg (B8 (dd32 x3.bs)))) (rwdig A3 N3) (fun u w' h9 => ⟨hr16.go h9.2, range_go r2 h9.2, range_go r3 h9.2⟩) ?_ ar_nil
      rintro _ w35 ⟨rfl, hb36⟩
      replace hB := hB.go hb36
      replace h := h.go hb36
      replace hr4 := hr4.go hb36
      replace r0 := range_go r0 hb36
      replace A0 := A0.go hb36
      replace r1 := range_go r1 hb36
      replace A1 := A1.go hb36
      replace r2 := range_go r2 hb36
      replace A2 := A2.go hb36
      replace r3 := range_go r3 hb36
      replace A3 := A3.go hb36
      replace hr16 := hr16.go hb36
      replace hr34 := hr34.go hb36
      refine dt 14 57 (.agg (AV (⟨(Wo.rdP x0.bs).1, (Wo.rdP x1.bs).1, dd32 x2.bs, dd32 x3.bs⟩ : PA)).toArray) (fun v hv => (fun _ => ol_build 26 _ rfl [(0, .int .u64 (((Wo.rdP x0.bs).1 : Nat) : Int)), (1, .int .u64 (((Wo.rdP x1.bs).1 : Nat) : Int)), (2, .agg (B8 (dd32 x2.bs))), (3, .agg (B8 (dd32 x3.bs)))] (by kernel_rfl) _ (built_Aw ((Wo.rdP x0.bs).1) ((Wo.rdP x1.bs).1) (dd32 x2.bs) (dd32 x3.bs) (dig32 A2.b).1 (dig32 A3.b).1))) ⟨hr16, r2, r3⟩ ?_
      refine dw_ready [16] (by kernel_rfl) (by simp) ?_
      refine ar_put 16 g32 ((AV (⟨(Wo.rdP x0.bs).1, (Wo.rdP x1.bs).1, dd32 x2.bs, dd32 x3.bs⟩ : PA)).toArray) rfl (fun _ => by kernel_rfl) (fun _ => ol_store 26 _ _ _ _ _ 26 rfl (by kernel_rfl) (by kernel_rfl) hr34 (infoA hok) (AV_size zA_ok hok) (AV_one _)) (fun w' hp => ⟨hr16.past hp (by omega), range_put r2 hp (by omega), range_put r3 hp (by omega)⟩) ?_ ar_nil
      intro w37 hp38
      replace hB := hB.put hp38 hzg10
      replace hr34 := hr34.put hp38
      replace hr4 := hr4.past hp38 (by omega)
      replace h : Ag w37 x n c b := ag_keep h fun g' off' e1 e2 _ => hp38.other (by have := hlow g' off' e1 e2; omega)
      refine dw_done (by kernel_rfl) ?_
      exact nw_cut [(0, .slice x n c), (2, .pointer (some ⟨g2, 0, none⟩)), (3, .int .i64 0), (7, .bool (Wo.rdP x0.bs).2), (9, .bool (Wo.rdP x1.bs).2), (10, .pointer (some ⟨g32, 0, none⟩))] (by exact ⟨fun _ => by kernel_rfl, ⟨fun _ => by kernel_rfl, ⟨fun _ => by kernel_rfl, ⟨fun _ => by kernel_rfl, ⟨fun _ => by kernel_rfl, ⟨fun _ => by kernel_rfl, trivial⟩⟩⟩⟩⟩⟩) ⟨g32, rfl, hr34, hr4, hB, h, by omega⟩
    refine ar_new 15 10 ((AV zA).toArray) 26 rfl (fun _ => by kernel_rfl) (fun _ => by kernel_rfl) (fun w' g_ h => ⟨hr16.go h.below, range_go r2 h.below, range_go r3 h.below⟩) ?_ ar_nil
    intro w39 g40 hn41
    have hzg10 : w.heap.size ≤ g40 := by have := hB.size; have := hn41.hg; omega
    have hl10 : g11 < g40 := by have := hr16.lt; have := hn41.hg; omega
    have hl2 : g2 < g40 := by have := hr4.lt; have := hn41.hg; omega
    have hlg : g < g40 := by have : g < _ := block_lt_of_cell (r2 0 _ rfl); have := hn41.hg; omega
    replace hB := hB.go hn41.below
    replace h := h.go hn41.below
    replace hr4 := hr4.go hn41.below
    replace r0 := range_go r0 hn41.below
    replace A0 := A0.go hn41.below
    replace r1 := range_go r1 hn41.below
    replace A1 := A1.go hn41.below
    replace r2 := range_go r2 hn41.below
    replace A2 := A2.go hn41.below
    replace r3 := range_go r3 hn41.below
    replace A3 := A3.go hn41.below
    replace hr16 := hr16.go hn41.below
    have hr42 : Rw g40 w39 (AV zA).toArray 26 := hn41.row
    refine dw_ready [7] (by kernel_rfl) (by simp) ?_
    refine ar_call 7 50 32 #[.slice y2.ba y2.bn y2.bc] rfl (fun _ => by kernel_rfl) (fun _ => by kernel_rfl) (R := RVl w39 (.agg (B8 (dd32 x2.bs)))) (rwdig A2 N2) (fun u w' h9 => ⟨hr16.go h9.2, range_go r2 h9.2, range_go r3 h9.2⟩) ?_ ar_nil
    rintro _ w43 ⟨rfl, hb44⟩
    replace hB := hB.go hb44
    replace h := h.go hb44
    replace hr4 := hr4.go hb44
    replace r0 := range_go r0 hb44
    replace A0 := A0.go hb44
    replace r1 := range_go r1 hb44
    replace A1 := A1.go hb44
    replace r2 := range_go r2 hb44
    replace A2 := A2.go hb44
    replace r3 := range_go r3 hb44
    replace A3 := A3.go hb44
    replace hr16 := hr16.go hb44
    replace hr42 := hr42.go hb44
    refine dw_ready [13] (by kernel_rfl) (by simp) ?_
    refine ar_call 13 56 32 #[.slice y3.ba y3.bn y3.bc] rfl (fun _ => by kernel_rfl) (fun _ => by kernel_rfl) (R := RVl w43 (.agg (B8 (dd32 x3.bs)))) (rwdig A3 N3) (fun u w' h9 => ⟨hr16.go h9.2, range_go r2 h9.2, range_go r3 h9.2⟩) ?_ ar_nil
    rintro _ w45 ⟨rfl, hb46⟩
    replace hB := hB.go hb46
    replace h := h.go hb46
    replace hr4 := hr4.go hb46
    replace r0 := range_go r0 hb46
    replace A0 := A0.go hb46
    replace r1 := range_go r1 hb46
    replace A1 := A1.go hb46
    replace r2 := range_go r2 hb46
    replace A2 := A2.go hb46
    replace r3 := range_go r3 hb46
    replace A3 := A3.go hb46
    replace hr16 := hr16.go hb46
    replace hr42 := hr42.go hb46
    refine dt 14 57 (.agg (AV (⟨(Wo.rdP x0.bs).1, (Wo.rdP x1.bs).1, dd32 x2.bs, dd32 x3.bs⟩ : PA)).toArray) (fun v hv => (fun _ => ol_build 26 _ rfl [(0, .int .u64 (((Wo.rdP x0.bs).1 : Nat) : Int)), (1, .int .u64 (((Wo.rdP x1.bs).1 : Nat) : Int)), (2, .agg (B8 (dd32 x2.bs))), (3, .agg (B8 (dd32 x3.bs)))] (by kernel_rfl) _ (built_Aw ((Wo.rdP x0.bs).1) ((Wo.rdP x1.bs).1) (dd32 x2.bs) (dd32 x3.bs) (dig32 A2.b).1 (dig32 A3.b).1))) ⟨hr16, r2, r3⟩ ?_
    refine dw_ready [16] (by kernel_rfl) (by simp) ?_
    refine ar_put 16 g40 ((AV (⟨(Wo.rdP x0.bs).1, (Wo.rdP x1.bs).1, dd32 x2.bs, dd32 x3.bs⟩ : PA)).toArray) rfl (fun _ => by kernel_rfl) (fun _ => ol_store 26 _ _ _ _ _ 26 rfl (by kernel_rfl) (by kernel_rfl) hr42 (infoA hok) (AV_size zA_ok hok) (AV_one _)) (fun w' hp => ⟨hr16.past hp (by omega), range_put r2 hp (by omega), range_put r3 hp (by omega)⟩) ?_ ar_nil
    intro w47 hp48
    replace hB := hB.put hp48 hzg10
    replace hr42 := hr42.put hp48
    replace hr4 := hr4.past hp48 (by omega)
    replace h : Ag w47 x n c b := ag_keep h fun g' off' e1 e2 _ => hp48.other (by have := hlow g' off' e1 e2; omega)
    refine dw_done (by kernel_rfl) ?_
    exact nw_cut [(0, .slice x n c), (2, .pointer (some ⟨g2, 0, none⟩)), (3, .int .i64 0), (7, .bool (Wo.rdP x0.bs).2), (9, .bool (Wo.rdP x1.bs).2), (10, .pointer (some ⟨g40, 0, none⟩))] (by exact ⟨fun _ => by kernel_rfl, ⟨fun _ => by kernel_rfl, ⟨fun _ => by kernel_rfl, ⟨fun _ => by kernel_rfl, ⟨fun _ => by kernel_rfl, ⟨fun _ => by kernel_rfl, trivial⟩⟩⟩⟩⟩⟩) ⟨g40, rfl, hr42, hr4, hB, h, by omega⟩
  clear hB h hr4
  rintro _ v ⟨g10, rfl, hr10, hr4, hB, h, hlt⟩
  refine nw_then ?_
  refine cw_seq ?_
  refine cw_seq ?_
  refine cw_draw (fun v => Rw g10 v (AV (⟨(Wo.rdP x0.bs).1, (Wo.rdP x1.bs).1, dd32 x2.bs, dd32 x3.bs⟩ : PA)).toArray 26 ∧ Ag v x n c b) (by kernel_rfl) (⟨hr10, h.go (Below.refl _ _).drew⟩) ?_
  replace hB := hB.go (Below.refl _ _).drew
  replace h := h.go (Below.refl _ _).drew
  replace hr10 := hr10.go (Below.refl _ _).drew
  replace hr4 := hr4.go (Below.refl _ _).drew
  refine dt 0 58 (.bool (Wo.rdP x0.bs).2) (fun v hv _ => by kernel_rfl) ⟨hr10, h⟩ ?_
  refine dt 1 59 (.bool (!((Wo.rdP x0.bs).2))) (fun v hv _ => by kernel_rfl) ⟨hr10, h⟩ ?_
  refine dt 2 60 (.bool (!((Wo.rdP x0.bs).2))) (fun v hv _ => by kernel_rfl) ⟨hr10, h⟩ ?_
  cases hq49 : (!((Wo.rdP x0.bs).2)) with
  | true =>
    refine df 3 61 ⟨hr10, h⟩ ?_
    refine df 4 62 ⟨hr10, h⟩ ?_
    refine dt 5 63 (.bool true) (fun v hv _ => by kernel_rfl) ⟨hr10, h⟩ ?_
    refine dt 6 64 (.bool true) (fun v hv _ => by kernel_rfl) ⟨hr10, h⟩ ?_
    refine df 7 65 ⟨hr10, h⟩ ?_
    refine df 8 66 ⟨hr10, h⟩ ?_
    refine df 9 67 ⟨hr10, h⟩ ?_
    refine df 10 68 ⟨hr10, h⟩ ?_
    refine df 11 69 ⟨hr10, h⟩ ?_
    refine df 12 70 ⟨hr10, h⟩ ?_
    refine dt 13 71 (.bool true) (fun v hv _ => by kernel_rfl) ⟨hr10, h⟩ ?_
    refine dw_done (by kernel_rfl) ?_
    refine nw_then ?_
    refine cw_cond_t (fun _ => by kernel_rfl) ?_
    refine cw_seq ?_
    refine cw_region ?_
    refine rv 72 (.agg (AV zA).toArray) (fun _ => ol_build 26 _ rfl [] (by kernel_rfl) _ built_Az) ?_
    refine rw_put g2 ((AV zA).toArray) (fun _ => by kernel_rfl) (fun _ => ol_store 26 _ _ _ _ _ 26 rfl (by kernel_rfl) (by kernel_rfl) hr4 (infoA zA_ok) (AV_size zA_ok zA_ok) (AV_one _)) ?_
    intro w50 hp51
    replace hB := hB.put hp51 hzg2
    replace hr10 := hr10.past hp51 (by omega)
    replace hr4 := hr4.put hp51
    refine rp 3 (.int .i64 120) ?_
    refine rw_nil ?_
    refine nw_then ?_
    refine cw_ret ?_
    refine nw_ret_then ?_
    refine nw_ret_body (.tuple #[.agg ((AV zA).toArray), .int .i64 120]) (fun _ => res_c2 rfl _ g2 _ _ (by kernel_rfl) (by kernel_rfl) hr4 Try.underlying26 rfl (infoA zA_ok)) ?_
    rw [Bool.not_eq_true'] at hq49
    have e : ddA b = none := by
      unfold ddA
      rw [hd]
      simp only
      rw [hi]
      simp only [wd_rd]
      simp [hq49]
    rw [e]
    exact ⟨_, rfl, rfl, hB⟩
  | false =>
    refine dt 3 61 (.bool (Wo.rdP x1.bs).2) (fun v hv _ => by kernel_rfl) ⟨hr10, h⟩ ?_
    refine dt 4 62 (.bool (!((Wo.rdP x1.bs).2))) (fun v hv _ => by kernel_rfl) ⟨hr10, h⟩ ?_
    refine dt 5 63 (.bool (!((Wo.rdP x1.bs).2))) (fun v hv _ => by kernel_rfl) ⟨hr10, h⟩ ?_
    refine dt 6 64 (.bool (!((Wo.rdP x1.bs).2))) (fun v hv _ => by kernel_rfl) ⟨hr10, h⟩ ?_
    cases hq52 : (!((Wo.rdP x1.bs).2)) with
    | true =>
      refine df 7 65 ⟨hr10, h⟩ ?_
      refine df 8 66 ⟨hr10, h⟩ ?_
      refine df 9 67 ⟨hr10, h⟩ ?_
      refine df 10 68 ⟨hr10, h⟩ ?_
      refine df 11 69 ⟨hr10, h⟩ ?_
      refine df 12 70 ⟨hr10, h⟩ ?_
      refine dt 13 71 (.bool true) (fun v hv _ => by kernel_rfl) ⟨hr10, h⟩ ?_
      refine dw_done (by kernel_rfl) ?_
      refine nw_then ?_
      refine cw_cond_t (fun _ => by kernel_rfl) ?_
      refine cw_seq ?_
      refine cw_region ?_
      refine rv 72 (.agg (AV zA).toArray) (fun _ => ol_build 26 _ rfl [] (by kernel_rfl) _ built_Az) ?_
      refine rw_put g2 ((AV zA).toArray) (fun _ => by kernel_rfl) (fun _ => ol_store 26 _ _ _ _ _ 26 rfl (by kernel_rfl) (by kernel_rfl) hr4 (infoA zA_ok) (AV_size zA_ok zA_ok) (AV_one _)) ?_
      intro w53 hp54
      replace hB := hB.put hp54 hzg2
      replace hr10 := hr10.past hp54 (by omega)
      replace hr4 := hr4.put hp54
      refine rp 3 (.int .i64 120) ?_
      refine rw_nil ?_
      refine nw_then ?_
      refine cw_ret ?_
      refine nw_ret_then ?_
      refine nw_ret_body (.tuple #[.agg ((AV zA).toArray), .int .i64 120]) (fun _ => res_c2 rfl _ g2 _ _ (by kernel_rfl) (by kernel_rfl) hr4 Try.underlying26 rfl (infoA zA_ok)) ?_
      rw [Bool.not_eq_false'] at hq49
      rw [Bool.not_eq_true'] at hq52
      have e : ddA b = none := by
        unfold ddA
        rw [hd]
        simp only
        rw [hi]
        simp only [wd_rd]
        simp [hq49, hq52]
      rw [e]
      exact ⟨_, rfl, rfl, hB⟩
    | false =>
      refine dt 7 65 (.agg ((AV (⟨(Wo.rdP x0.bs).1, (Wo.rdP x1.bs).1, dd32 x2.bs, dd32 x3.bs⟩ : PA)).toArray)) (fun v hv _ => ol_row 26 _ _ _ _ _ _ rfl (by kernel_rfl) hv.1 Try.underlying26 rfl (infoA hok)) ⟨hr10, h⟩ ?_
      refine dt 10 68 (.slice x n c) (fun v hv _ => by kernel_rfl) ⟨hr10, h⟩ ?_
      refine dt 11 69 (.string (strOfNums b)) (fun v hv _ => hv.2.run_str _ _ _ rfl (by kernel_rfl)) ⟨hr10, h⟩ ?_
      refine dw_ready [8] (by kernel_rfl) (by simp) ?_
      refine ar_call 8 66 12 #[.agg ((AV (⟨(Wo.rdP x0.bs).1, (Wo.rdP x1.bs).1, dd32 x2.bs, dd32 x3.bs⟩ : PA)).toArray)] rfl (fun _ => by kernel_rfl) (fun _ => by kernel_rfl) (R := RSl v.drew (enA (⟨(Wo.rdP x0.bs).1, (Wo.rdP x1.bs).1, dd32 x2.bs, dd32 x3.bs⟩ : PA))) (rwenc (⟨(Wo.rdP x0.bs).1, (Wo.rdP x1.bs).1, dd32 x2.bs, dd32 x3.bs⟩ : PA) hok v.drew) (fun u w' h9 => ⟨hr10.go h9.2, h.go h9.2⟩) ?_ ar_nil
      rintro _ w58 ⟨⟨a55, n56, c57, rfl, ha59⟩, hb60⟩
      replace hB := hB.go hb60
      replace h := h.go hb60
      replace hr10 := hr10.go hb60
      replace hr4 := hr4.go hb60
      refine dw_ready [9] (by kernel_rfl) (by simp) ?_
      refine ar_v 9 67 (.string (strOfNums (enA (⟨(Wo.rdP x0.bs).1, (Wo.rdP x1.bs).1, dd32 x2.bs, dd32 x3.bs⟩ : PA)))) rfl (fun _ => by kernel_rfl) (fun _ => ha59.run_str _ _ _ rfl (by kernel_rfl)) ⟨hr10, h⟩ ?_ ar_nil
      refine dt 12 70 (.bool (!decide (enA (⟨(Wo.rdP x0.bs).1, (Wo.rdP x1.bs).1, dd32 x2.bs, dd32 x3.bs⟩ : PA) = b))) (fun v hv => (fun _ => ol_nes 9 _ _ _ _ _ rfl (by kernel_rfl) (by kernel_rfl) (congrArg Bool.not (strs_eq ha59.b h.b)))) ⟨hr10, h⟩ ?_
      refine dt 13 71 (.bool (!decide (enA (⟨(Wo.rdP x0.bs).1, (Wo.rdP x1.bs).1, dd32 x2.bs, dd32 x3.bs⟩ : PA) = b))) (fun v hv _ => by kernel_rfl) ⟨hr10, h⟩ ?_
      refine dw_done (by kernel_rfl) ?_
      refine nw_then ?_
      cases hq61 : (!decide (enA (⟨(Wo.rdP x0.bs).1, (Wo.rdP x1.bs).1, dd32 x2.bs, dd32 x3.bs⟩ : PA) = b)) with
      | true =>
        refine cw_cond_t (fun _ => by kernel_rfl) ?_
        refine cw_seq ?_
        refine cw_region ?_
        refine rv 72 (.agg (AV zA).toArray) (fun _ => ol_build 26 _ rfl [] (by kernel_rfl) _ built_Az) ?_
        refine rw_put g2 ((AV zA).toArray) (fun _ => by kernel_rfl) (fun _ => ol_store 26 _ _ _ _ _ 26 rfl (by kernel_rfl) (by kernel_rfl) hr4 (infoA zA_ok) (AV_size zA_ok zA_ok) (AV_one _)) ?_
        intro w62 hp63
        replace hB := hB.put hp63 hzg2
        replace hr10 := hr10.past hp63 (by omega)
        replace hr4 := hr4.put hp63
        refine rp 3 (.int .i64 120) ?_
        refine rw_nil ?_
        refine nw_then ?_
        refine cw_ret ?_
        refine nw_ret_then ?_
        refine nw_ret_body (.tuple #[.agg ((AV zA).toArray), .int .i64 120]) (fun _ => res_c2 rfl _ g2 _ _ (by kernel_rfl) (by kernel_rfl) hr4 Try.underlying26 rfl (infoA zA_ok)) ?_
        rw [Bool.not_eq_false'] at hq49
        rw [Bool.not_eq_false'] at hq52
        rw [Bool.not_eq_true'] at hq61
        rw [decide_eq_false_iff_not] at hq61
        have e : ddA b = none := by
          unfold ddA
          rw [hd]
          simp only
          rw [hi]
          simp only [wd_rd]
          rw [if_pos hq49, if_pos hq52]
          exact if_neg hq61
        rw [e]
        exact ⟨_, rfl, rfl, hB⟩
      | false =>
        refine cw_cond_f (fun _ => by kernel_rfl) ?_
        refine cw_skip ?_
        refine nw_then ?_
        refine cw_seq ?_
        refine cw_region ?_
        refine rv 73 (.agg ((AV (⟨(Wo.rdP x0.bs).1, (Wo.rdP x1.bs).1, dd32 x2.bs, dd32 x3.bs⟩ : PA)).toArray)) (fun _ => ol_row 26 _ _ _ _ _ _ rfl (by kernel_rfl) hr10 Try.underlying26 rfl (infoA hok)) ?_
        refine rw_put g2 ((AV (⟨(Wo.rdP x0.bs).1, (Wo.rdP x1.bs).1, dd32 x2.bs, dd32 x3.bs⟩ : PA)).toArray) (fun _ => by kernel_rfl) (fun _ => ol_store 26 _ _ _ _ _ 26 rfl (by kernel_rfl) (by kernel_rfl) hr4 (infoA hok) (AV_size zA_ok hok) (AV_one _)) ?_
        intro w64 hp65
        replace hB := hB.put hp65 hzg2
        replace hr10 := hr10.past hp65 (by omega)
        replace hr4 := hr4.put hp65
        refine rp 3 (.int .i64 0) ?_
        refine rw_nil ?_
        refine nw_then ?_
        refine cw_ret ?_
        refine nw_ret_body (.tuple #[.agg ((AV (⟨(Wo.rdP x0.bs).1, (Wo.rdP x1.bs).1, dd32 x2.bs, dd32 x3.bs⟩ : PA)).toArray), .int .i64 0]) (fun _ => res_c2 rfl _ g2 _ _ (by kernel_rfl) (by kernel_rfl) hr4 Try.underlying26 rfl (infoA hok)) ?_
        rw [Bool.not_eq_false'] at hq49
        rw [Bool.not_eq_false'] at hq52
        rw [Bool.not_eq_false'] at hq61
        rw [decide_eq_true_eq] at hq61
        have e : ddA b = some (⟨(Wo.rdP x0.bs).1, (Wo.rdP x1.bs).1, dd32 x2.bs, dd32 x3.bs⟩ : PA) := by
          unfold ddA
          rw [hd]
          simp only
          rw [hi]
          simp only [wd_rd]
          rw [if_pos hq49, if_pos hq52]
          exact if_pos hq61
        rw [e]
        exact ⟨_, rfl, rfl, hB⟩
theorem rwde {w : World} {x : Option Addr} {n c : Nat} {b : List Int} (h : Ag w x n c b) (hn : n ≤ 140737488351232) : Calls Try.prog 16 #[.slice x n c] w fun e w' => ∃ v, e = .returned v ∧ RVl w (.tuple #[.agg (AV ((deA b).getD zA)).toArray, .int .i64 (if (deA b).isSome then 0 else 120)]) v w' := by
  cases hd : decP b with
  | bad e0 => exact rwde_bad h hn hd
  | ok t =>
    match hi : t.its with
    | [x0, x1, x2, x3] => exact rwde_four h hn hd hi
    | [] => exact rwde_no h hn hd (by rw [hi]; simp)
    | [_] => exact rwde_no h hn hd (by rw [hi]; simp)
    | [_, _] => exact rwde_no h hn hd (by rw [hi]; simp)
    | [_, _, _] => exact rwde_no h hn hd (by rw [hi]; simp)
    | _ :: _ :: _ :: _ :: _ :: _ => exact rwde_no h hn hd (by rw [hi]; simp)
end Go.Proofs.Ytmaajddofmahpaa
/- The laws of accounts. -/
namespace Go.Proofs.Ytmaajddofmahpaa
open Go.RowKit
open Di (dref)
set_option linter.unusedVariables false
set_option maxRecDepth 100000
theorem wsame_e {w : World} {x1 x2 : Option Addr} {n1 c1 n2 c2 : Nat} {b1 b2 : List Int} (h1 : Ag w x1 n1 c1 b1) (h2 : Ag w x2 n2 c2 b2) (e : b1 = b2) : Calls Try.prog 10 #[.slice x1 n1 c1, .slice x2 n2 c2] w fun e w' => ∃ v, e = .returned v ∧ RVl w (.bool true) v w' := by
  have := wsame h1 h2
  rw [decide_eq_true e] at this
  exact this
theorem eqP_self (a : PA) : eqP a a = true := eqP_iff.2 rfl
theorem wis_e (w : World) : Calls Try.prog 13 #[.agg (AV eA).toArray] w fun e w' => ∃ v, e = .returned v ∧ RVl w (.bool true) v w' := by
  have := wis eA eA_ok w
  rw [eqP_self] at this
  exact this
def a51 : PA := ⟨5, 1000, z32, z32⟩
theorem a51_ok : okA a51 := ⟨by decide, by decide, rfl, zA_ok.cb, rfl, zA_ok.cb⟩
theorem a51_len : (enA a51).length = 72 := by decide +kernel
theorem a51_two : (enA a51).getD 2 0 = 5 := by decide +kernel
theorem be256 : be 256 = [1, 0] := by decide +kernel
theorem wvalue256 (w : World) : Calls Try.prog 19 #[.int .u64 256] w fun e w' => ∃ v, e = .returned v ∧ RSl w [1, 0] v w' := by
  have := wvalue 256 (by decide) w
  rw [be256] at this
  exact this
/-- What a law's call comes to. -/
def Law12 (w : World) : Ending → World → Prop := fun e w' => e = .returned (.bool true) ∧ Below w.heap.size w w'
theorem cell_go {w w' : World} {g o : Nat} {v : Value} (h : w.cell? ⟨g, o, none⟩ = some v) (hb : Below w.heap.size w w') : w'.cell? ⟨g, o, none⟩ = some v := below_cell hb h
set_option maxHeartbeats 1000000 in
theorem walive (w : World) : Calls Try.prog 9 #[] w fun e w' => ∃ v, e = .returned v ∧ RVl w (.bool true) v w' := by
  have hB : Bl w w := Bl.refl w
  refine cw_enter Try.func9 rfl 29 rfl ?_
  show CW _ _ _ _ _ _ _ [] _
  refine cw_seq ?_
  refine cw_region ?_
  refine rp 0 (.bool false) ?_
  refine rw_nil ?_
  refine nw_then ?_
  refine cw_seq ?_
  refine cw_region ?_
  refine rw_call 3 21 #[] (fun _ => by kernel_rfl) (fun _ => by kernel_rfl) (R := RVl w (.agg (AV eA).toArray)) (wempty w) ?_
  rintro _ w1 ⟨rfl, hb2⟩
  replace hB := hB.go hb2
  refine rw_new 1 ((AV zA).toArray) 26 (fun _ => by kernel_rfl) (fun _ => by kernel_rfl) ?_
  intro w3 g4 hn5
  have hr6 : Rw g4 w3 ((AV zA).toArray) 26 := hn5.row
  refine rw_put g4 ((AV eA).toArray) (fun _ => by kernel_rfl) (fun _ => ol_store 26 _ _ _ _ _ 26 rfl (by kernel_rfl) (by kernel_rfl) hr6 (infoA eA_ok) (AV_size zA_ok eA_ok) (AV_one _)) ?_
  intro w7 hp8
  have hbg4 : Below w1.heap.size w1 w7 := hp8.below hn5.below (Nat.le_of_eq hn5.hg.symm) (by have := hn5.size; have := hn5.hg; omega)
  have hzg4 : w.heap.size ≤ g4 := by have := hB.size; have := hn5.hg; omega
  replace hB := hB.go hbg4
  have hr9 : Rw g4 w7 ((AV eA).toArray) 26 := hr6.put hp8
  refine rw_nil ?_
  refine nw_then ?_
  refine cw_seq ?_
  refine cw_region ?_
  refine rv 4 (.agg (AV (⟨5, 1000, z32, z32⟩ : PA)).toArray) (fun _ => ol_build 26 _ rfl [(0, .int .u64 5), (1, .int .u64 1000)] (by kernel_rfl) _ built_A5) ?_
  refine rw_call 5 11 #[.agg (AV (⟨5, 1000, z32, z32⟩ : PA)).toArray] (fun _ => by kernel_rfl) (fun _ => by kernel_rfl) (R := RSl w7 (enA a51)) (wenc a51 a51_ok w7) ?_
  rintro _ w13 ⟨⟨a10, n11, c12, rfl, ha14⟩, hb15⟩
  replace hB := hB.go hb15
  replace hr9 := hr9.go hb15
  refine rp 2 (.slice a10 n11 c12) ?_
  refine rw_nil ?_
  refine nw_then ?_
  refine cw_seq ?_
  obtain rfl : 72 = n11 := a51_len.symm.trans ha14.l
  obtain ⟨gb, off, rfl, _, _, hcs⟩ := ag_head ha14 (by omega)
  have hc2 := hcs 2 (by omega)
  rw [a51_two] at hc2
  clear ha14
  refine cw_draw (fun v => Rw g4 v (AV eA).toArray 26 ∧ v.cell? ⟨gb, off + 2, none⟩ = some (.int .u8 5)) (by kernel_rfl) (⟨hr9, hc2⟩) ?_
  replace hB := hB.go (Below.refl _ _).drew
  replace hr9 := hr9.go (Below.refl _ _).drew
  replace hc2 := cell_go hc2 (Below.refl _ _).drew
  refine dt 0 6 (.agg ((AV eA).toArray)) (fun v hv _ => ol_row 26 _ _ _ _ _ _ rfl (by kernel_rfl) hv.1 Try.underlying26 rfl (infoA eA_ok)) ⟨hr9, hc2⟩ ?_
  refine dw_ready [1] (by kernel_rfl) (by simp) ?_
  refine ar_call 1 7 13 #[.agg ((AV eA).toArray)] rfl (fun _ => by kernel_rfl) (fun _ => by kernel_rfl) (R := RVl w13.drew (.bool true)) (wis_e w13.drew) (fun u w' h9 => ⟨hr9.go h9.2, cell_go hc2 h9.2⟩) ?_ ar_nil
  rintro _ w16 ⟨rfl, hb17⟩
  replace hB := hB.go hb17
  replace hr9 := hr9.go hb17
  replace hc2 := cell_go hc2 hb17
  refine dt 2 8 (.bool true) (fun v hv _ => by kernel_rfl) ⟨hr9, hc2⟩ ?_
  refine dt 3 9 (.agg ((AV eA).toArray)) (fun v hv _ => ol_row 26 _ _ _ _ _ _ rfl (by kernel_rfl) hv.1 Try.underlying26 rfl (infoA eA_ok)) ⟨hr9, hc2⟩ ?_
  refine dw_ready [4] (by kernel_rfl) (by simp) ?_
  refine ar_call 4 10 14 #[] rfl (fun _ => by kernel_rfl) (fun _ => by kernel_rfl) (R := RVl w16 (.agg (AV eA).toArray)) (rwempty w16) (fun u w' h9 => ⟨hr9.go h9.2, cell_go hc2 h9.2⟩) ?_ ar_nil
  rintro _ w18 ⟨rfl, hb19⟩
  replace hB := hB.go hb19
  replace hr9 := hr9.go hb19
  replace hc2 := cell_go hc2 hb19
  refine dt 5 11 (.bool true) (fun v hv => (fun _ => ol_conv (ol_eqlA rfl (by kernel_rfl) (by kernel_rfl) eA_ok eA_ok) (congrArg Value.bool (eqP_self _)))) ⟨hr9, hc2⟩ ?_
  refine dt 6 12 (.bool true) (fun v hv _ => by kernel_rfl) ⟨hr9, hc2⟩ ?_
  refine dt 7 13 (.bool true) (fun v hv _ => by kernel_rfl) ⟨hr9, hc2⟩ ?_
  refine dt 8 14 (.slice (some ⟨gb, off, none⟩) 72 c12) (fun v hv _ => by kernel_rfl) ⟨hr9, hc2⟩ ?_
  refine dt 9 15 (.int .i64 72) (fun v hv _ => by kernel_rfl) ⟨hr9, hc2⟩ ?_
  refine dt 10 16 (.bool true) (fun v hv _ => by kernel_rfl) ⟨hr9, hc2⟩ ?_
  refine dt 11 17 (.bool true) (fun v hv _ => by kernel_rfl) ⟨hr9, hc2⟩ ?_
  refine dt 12 18 (.bool true) (fun v hv _ => by kernel_rfl) ⟨hr9, hc2⟩ ?_
  refine dt 13 19 (.slice (some ⟨gb, off, none⟩) 72 c12) (fun v hv _ => by kernel_rfl) ⟨hr9, hc2⟩ ?_
  refine dt 14 20 (.pointer (some ⟨gb, off + 2 * 1, none⟩)) (fun v hv _ => ol_index 29 _ _ gb off 2 72 c12 1 5 rfl (by kernel_rfl) (by kernel_rfl) (by omega) Try.underlying29 (by kernel_rfl)) ⟨hr9, hc2⟩ ?_
  refine dt 15 21 (.int .u8 5) (fun v hv _ => ol_cell 5 _ ⟨gb, off + 2 * 1, none⟩ _ _ rfl (by kernel_rfl) hv.2 Try.underlying5 rfl) ⟨hr9, hc2⟩ ?_
  refine dt 16 22 (.bool true) (fun v hv _ => by kernel_rfl) ⟨hr9, hc2⟩ ?_
  refine dt 17 23 (.bool true) (fun v hv _ => by kernel_rfl) ⟨hr9, hc2⟩ ?_
  refine dt 18 24 (.bool true) (fun v hv _ => by kernel_rfl) ⟨hr9, hc2⟩ ?_
  refine dw_ready [19, 20] (by kernel_rfl) (by simp) ?_
  refine ar_call 19 25 19 #[.int .u64 256] rfl (fun _ => by kernel_rfl) (fun _ => by kernel_rfl) (R := RSl w18 ([1, 0])) (wvalue256 w18) (fun u w' h9 => ⟨hr9.go h9.2, cell_go hc2 h9.2⟩) ?_ ?_
  · skip
    rintro _ w23 ⟨⟨a20, n21, c22, rfl, ha24⟩, hb25⟩
    replace hB := hB.go hb25
    replace hr9 := hr9.go hb25
    replace hc2 := cell_go hc2 hb25
    refine dw_ready [20] (by kernel_rfl) (by simp) ?_
    refine ar_newS 20 26 #[.int .u8 1, .int .u8 0] 5 2 rfl (fun _ => by kernel_rfl) (fun _ => by kernel_rfl) (fun w' g h9 => ⟨hr9.go h9.below, cell_go hc2 h9.below⟩) ?_ ar_nil
    intro w26 g27 hn28
    replace hB := hB.go hn28.below
    replace hr9 := hr9.go hn28.below
    replace hc2 := cell_go hc2 hn28.below
    replace ha24 := ha24.go hn28.below
    have ha29 : Ag w26 (some ⟨g27, 0, none⟩) 2 2 [1, 0] := row_ag (show Row g27 w26 [1, 0] from hn28.row) rfl (fun x hx => by simp at hx; omega) (by omega)
    refine dw_ready [21] (by kernel_rfl) (by simp) ?_
    refine ar_call 21 27 10 #[.slice a20 n21 c22, .slice (some ⟨g27, 0, none⟩) 2 2] rfl (fun _ => by kernel_rfl) (fun _ => by kernel_rfl) (R := RVl w26 (.bool true)) (wsame_e ha24 ha29 rfl) (fun u w' h9 => ⟨hr9.go h9.2, cell_go hc2 h9.2⟩) ?_ ar_nil
    rintro _ w30 ⟨rfl, hb31⟩
    replace hB := hB.go hb31
    replace hr9 := hr9.go hb31
    replace hc2 := cell_go hc2 hb31
    replace ha24 := ha24.go hb31
    replace ha29 := ha29.go hb31
    refine dt 22 28 (.bool true) (fun v hv _ => by kernel_rfl) ⟨hr9, hc2⟩ ?_
    refine dt 23 0 (.bool true) (fun v hv _ => by kernel_rfl) ⟨hr9, hc2⟩ ?_
    refine dw_done (by kernel_rfl) ?_
    refine nw_then ?_
    refine cw_ret ?_
    refine nw_ret_body (.bool true) (fun _ => by kernel_rfl) ?_
    exact ⟨_, rfl, rfl, hB⟩
  refine ar_newS 20 26 #[.int .u8 1, .int .u8 0] 5 2 rfl (fun _ => by kernel_rfl) (fun _ => by kernel_rfl) (fun w' g h9 => ⟨hr9.go h9.below, cell_go hc2 h9.below⟩) ?_ ar_nil
  intro w32 g33 hn34
  replace hB := hB.go hn34.below
  replace hr9 := hr9.go hn34.below
  replace hc2 := cell_go hc2 hn34.below
  have ha35 : Ag w32 (some ⟨g33, 0, none⟩) 2 2 [1, 0] := row_ag (show Row g33 w32 [1, 0] from hn34.row) rfl (fun x hx => by simp at hx; omega) (by omega)
  refine dw_ready [19] (by kernel_rfl) (by simp) ?_
  refine ar_call 19 25 19 #[.int .u64 256] rfl (fun _ => by kernel_rfl) (fun _ => by kernel_rfl) (R := RSl w32 ([1, 0])) (wvalue256 w32) (fun u w' h9 => ⟨hr9.go h9.2, cell_go hc2 h9.2⟩) ?_ ar_nil
  rintro _ w39 ⟨⟨a36, n37, c38, rfl, ha40⟩, hb41⟩
  replace hB := hB.go hb41
  replace hr9 := hr9.go hb41
  replace hc2 := cell_go hc2 hb41
  replace ha35 := ha35.go hb41
  refine dw_ready [21] (by kernel_rfl) (by simp) ?_
  refine ar_call 21 27 10 #[.slice a36 n37 c38, .slice (some ⟨g33, 0, none⟩) 2 2] rfl (fun _ => by kernel_rfl) (fun _ => by kernel_rfl) (R := RVl w39 (.bool true)) (wsame_e ha40 ha35 rfl) (fun u w' h9 => ⟨hr9.go h9.2, cell_go hc2 h9.2⟩) ?_ ar_nil
  rintro _ w42 ⟨rfl, hb43⟩
  replace hB := hB.go hb43
  replace hr9 := hr9.go hb43
  replace hc2 := cell_go hc2 hb43
  replace ha35 := ha35.go hb43
  replace ha40 := ha40.go hb43
  refine dt 22 28 (.bool true) (fun v hv _ => by kernel_rfl) ⟨hr9, hc2⟩ ?_
  refine dt 23 0 (.bool true) (fun v hv _ => by kernel_rfl) ⟨hr9, hc2⟩ ?_
  refine dw_done (by kernel_rfl) ?_
  refine nw_then ?_
  refine cw_ret ?_
  refine nw_ret_body (.bool true) (fun _ => by kernel_rfl) ?_
  exact ⟨_, rfl, rfl, hB⟩
set_option maxHeartbeats 1000000 in
theorem decodes_any (x : Option Addr) (n c : Nat) (b : List Int) (hn : n ≤ 140737488351232) (w : World) (h : Ag w x n c b) : Calls Try.prog 4 #[.slice x n c] w (Law12 w) := by
  have hok := deA_ok h.b
  obtain ⟨D, hD⟩ : ∃ D, (deA b).getD zA = D := ⟨_, rfl⟩
  obtain ⟨er, her⟩ : ∃ er : Int, (if (deA b).isSome then 0 else 120) = er := ⟨_, rfl⟩
  rw [hD] at hok
  have hB : Bl w w := Bl.refl w
  refine cw_enter Try.func4 rfl 28 rfl ?_
  show CW _ _ _ _ _ _ _ [(0, .slice x n c)] _
  refine cw_seq ?_
  refine cw_region ?_
  refine rp 2 (.bool false) ?_
  refine rw_nil ?_
  refine nw_then ?_
  refine cw_seq ?_
  refine cw_region ?_
  refine rp 8 (.slice x n c) ?_
  refine rw_call 9 15 #[.slice x n c] (fun _ => by kernel_rfl) (fun _ => by kernel_rfl) (R := RVl w (.tuple #[.agg (AV D).toArray, .int .i64 er])) (by have := wde h hn; rw [hD, her] at this; exact this) ?_
  rintro _ w1 ⟨rfl, hb2⟩
  replace hB := hB.go hb2
  replace h := h.go hb2
  refine rp 7 (.tuple #[.agg (AV D).toArray, .int .i64 er]) ?_
  refine rp 10 (.agg (AV D).toArray) ?_
  refine rp 11 (.int .i64 er) ?_
  refine rw_new 3 ((AV zA).toArray) 26 (fun _ => by kernel_rfl) (fun _ => by kernel_rfl) ?_
  intro w3 g4 hn5
  have hr6 : Rw g4 w3 ((AV zA).toArray) 26 := hn5.row
  refine rw_put g4 ((AV D).toArray) (fun _ => by kernel_rfl) (fun _ => ol_store 26 _ _ _ _ _ 26 rfl (by kernel_rfl) (by kernel_rfl) hr6 (infoA hok) (AV_size zA_ok hok) (AV_one _)) ?_
  intro w7 hp8
  have hbg4 : Below w1.heap.size w1 w7 := hp8.below hn5.below (Nat.le_of_eq hn5.hg.symm) (by have := hn5.size; have := hn5.hg; omega)
  have hzg4 : w.heap.size ≤ g4 := by have := hB.size; have := hn5.hg; omega
  replace hB := hB.go hbg4
  replace h := h.go hbg4
  have hr9 : Rw g4 w7 ((AV D).toArray) 26 := hr6.put hp8
  refine rp 4 (.int .i64 er) ?_
  refine rw_nil ?_
  refine nw_then ?_
  refine cw_seq ?_
  refine cw_region ?_
  refine rp 13 (.slice x n c) ?_
  refine rw_call 14 16 #[.slice x n c] (fun _ => by kernel_rfl) (fun _ => by kernel_rfl) (R := RVl w7 (.tuple #[.agg (AV D).toArray, .int .i64 er])) (by have := rwde h hn; rw [hD, her] at this; exact this) ?_
  rintro _ w10 ⟨rfl, hb11⟩
  replace hB := hB.go hb11
  replace h := h.go hb11
  replace hr9 := hr9.go hb11
  refine rp 12 (.tuple #[.agg (AV D).toArray, .int .i64 er]) ?_
  refine rp 15 (.agg (AV D).toArray) ?_
  refine rp 16 (.int .i64 er) ?_
  refine rw_new 5 ((AV zA).toArray) 26 (fun _ => by kernel_rfl) (fun _ => by kernel_rfl) ?_
  intro w12 g13 hn14
  have hr15 : Rw g13 w12 ((AV zA).toArray) 26 := hn14.row
  refine rw_put g13 ((AV D).toArray) (fun _ => by kernel_rfl) (fun _ => ol_store 26 _ _ _ _ _ 26 rfl (by kernel_rfl) (by kernel_rfl) hr15 (infoA hok) (AV_size zA_ok hok) (AV_one _)) ?_
  intro w16 hp17
  have hbg13 : Below w10.heap.size w10 w16 := hp17.below hn14.below (Nat.le_of_eq hn14.hg.symm) (by have := hn14.size; have := hn14.hg; omega)
  have hzg13 : w.heap.size ≤ g13 := by have := hB.size; have := hn14.hg; omega
  replace hB := hB.go hbg13
  replace h := h.go hbg13
  replace hr9 := hr9.go hbg13
  have hr18 : Rw g13 w16 ((AV D).toArray) 26 := hr15.put hp17
  refine rp 6 (.int .i64 er) ?_
  refine rw_nil ?_
  refine nw_then ?_
  refine cw_seq ?_
  refine cw_region ?_
  refine rw_call 17 9 #[] (fun _ => by kernel_rfl) (fun _ => by kernel_rfl) (R := RVl w16 (.bool true)) (walive w16) ?_
  rintro _ w19 ⟨rfl, hb20⟩
  replace hB := hB.go hb20
  replace h := h.go hb20
  replace hr9 := hr9.go hb20
  replace hr18 := hr18.go hb20
  refine rp 18 (.bool true) ?_
  refine rv 19 (.agg ((AV D).toArray)) (fun _ => ol_row 26 _ _ _ _ _ _ rfl (by kernel_rfl) hr9 Try.underlying26 rfl (infoA hok)) ?_
  refine rv 20 (.agg ((AV D).toArray)) (fun _ => ol_row 26 _ _ _ _ _ _ rfl (by kernel_rfl) hr18 Try.underlying26 rfl (infoA hok)) ?_
  refine rv 21 (.bool true) (fun _ => ol_conv (ol_eqlA rfl (by kernel_rfl) (by kernel_rfl) hok hok) (congrArg Value.bool (eqP_self _))) ?_
  refine rp 22 (.bool true) ?_
  refine rp 23 (.bool true) ?_
  refine rp 24 (.int .i64 er) ?_
  refine rp 25 (.int .i64 er) ?_
  refine rv 26 (.bool true) (fun _ => ol_conv (v := .bool ((er : Int) == (er : Int))) (by kernel_rfl) (congrArg Value.bool (beq_self_eq_true _))) ?_
  refine rp 27 (.bool true) ?_
  refine rp 2 (.bool true) ?_
  refine rw_nil ?_
  refine nw_then ?_
  refine cw_ret ?_
  refine nw_ret_body (.bool true) (fun _ => by kernel_rfl) ?_
  exact ⟨rfl, hB⟩
set_option maxHeartbeats 1000000 in
theorem only_long (x : Option Addr) (n c : Nat) (b : List Int) (hn : n ≤ 140737488351232) (w : World) (h : Ag w x n c b) (h8 : 8 < n) : Calls Try.prog 7 #[.slice x n c] w (Law12 w) := by
  have hok := deA_ok h.b
  have hll := h.l
  have hE : (if (deA b).isSome then 0 else 120 : Int) = 0 → enA ((deA b).getD zA) = b := fun e => by
    cases hd : deA b with
    | none => rw [hd] at e; cases e
    | some a => exact (de_some h.b hd).2.1
  have hN : (if (deA b).isSome then 0 else 120 : Int) ≠ 0 → (deA b).getD zA = zA := fun e => by
    cases hd : deA b with
    | none => rfl
    | some a => rw [hd] at e; exact absurd rfl e
  obtain ⟨D, hD⟩ : ∃ D, (deA b).getD zA = D := ⟨_, rfl⟩
  obtain ⟨er, her⟩ : ∃ er : Int, (if (deA b).isSome then 0 else 120) = er := ⟨_, rfl⟩
  rw [hD] at hok
  rw [hD, her] at hE hN
  have hrd : Wo.rdP b = (0, false) := by unfold Wo.rdP; rw [if_pos (by exact .inl (by omega))]
  have hB : Bl w w := Bl.refl w
  refine cw_enter Try.func7 rfl 66 rfl ?_
  show CW _ _ _ _ _ _ _ [(0, .slice x n c)] _
  refine cw_seq ?_
  refine cw_region ?_
  refine rp 2 (.bool false) ?_
  refine rw_nil ?_
  refine nw_then ?_
  refine cw_seq ?_
  refine cw_region ?_
  refine rp 8 (.slice x n c) ?_
  refine rw_call 9 15 #[.slice x n c] (fun _ => by kernel_rfl) (fun _ => by kernel_rfl) (R := RVl w (.tuple #[.agg (AV D).toArray, .int .i64 er])) (by have := wde h (by omega); rw [hD, her] at this; exact this) ?_
  rintro _ w1 ⟨rfl, hb2⟩
  replace hB := hB.go hb2
  replace h := h.go hb2
  refine rp 7 (.tuple #[.agg (AV D).toArray, .int .i64 er]) ?_
  refine rp 10 (.agg (AV D).toArray) ?_
  refine rp 11 (.int .i64 er) ?_
  refine rw_new 3 ((AV zA).toArray) 26 (fun _ => by kernel_rfl) (fun _ => by kernel_rfl) ?_
  intro w3 g4 hn5
  have hr6 : Rw g4 w3 ((AV zA).toArray) 26 := hn5.row
  refine rw_put g4 ((AV D).toArray) (fun _ => by kernel_rfl) (fun _ => ol_store 26 _ _ _ _ _ 26 rfl (by kernel_rfl) (by kernel_rfl) hr6 (infoA hok) (AV_size zA_ok hok) (AV_one _)) ?_
  intro w7 hp8
  have hbg4 : Below w1.heap.size w1 w7 := hp8.below hn5.below (Nat.le_of_eq hn5.hg.symm) (by have := hn5.size; have := hn5.hg; omega)
  have hzg4 : w.heap.size ≤ g4 := by have := hB.size; have := hn5.hg; omega
  replace hB := hB.go hbg4
  replace h := h.go hbg4
  have hr9 : Rw g4 w7 ((AV D).toArray) 26 := hr6.put hp8
  refine rp 4 (.int .i64 er) ?_
  refine rw_nil ?_
  refine nw_then ?_
  refine cw_seq ?_
  refine cw_region ?_
  refine rp 13 (.slice x n c) ?_
  refine rw_call 14 17 #[.slice x n c] (fun _ => by kernel_rfl) (fun _ => by kernel_rfl) (R := RVl w7 (.tuple #[.int .u64 0, .int .i64 120])) (by have := wacread h (by omega); rw [hrd] at this; exact this) ?_
  rintro _ w10 ⟨rfl, hb11⟩
  replace hB := hB.go hb11
  replace h := h.go hb11
  replace hr9 := hr9.go hb11
  refine rp 12 (.tuple #[.int .u64 0, .int .i64 120]) ?_
  refine rp 15 (.int .u64 0) ?_
  refine rp 16 (.int .i64 120) ?_
  refine rp 5 (.int .u64 0) ?_
  refine rp 6 (.int .i64 120) ?_
  refine rw_nil ?_
  refine nw_then ?_
  refine cw_seq ?_
  refine cw_seq ?_
  refine cw_region ?_
  refine rw_call 17 9 #[] (fun _ => by kernel_rfl) (fun _ => by kernel_rfl) (R := RVl w10 (.bool true)) (walive w10) ?_
  rintro _ w12 ⟨rfl, hb13⟩
  replace hB := hB.go hb13
  replace h := h.go hb13
  replace hr9 := hr9.go hb13
  refine rp 18 (.bool false) ?_
  refine rp 19 (.bool false) ?_
  refine rp 20 (.int .i64 er) ?_
  refine rp 21 (.bool ((er : Int) == (0 : Int))) ?_
  refine rp 22 (.bool ((er : Int) == (0 : Int))) ?_
  cases hq14 : ((er : Int) == (0 : Int)) with
  | true =>
    have hE2 := hE (eq_of_beq hq14)
    refine rv 23 (.agg ((AV D).toArray)) (fun _ => ol_row 26 _ _ _ _ _ _ rfl (by kernel_rfl) hr9 Try.underlying26 rfl (infoA hok)) ?_
    refine rw_call 24 11 #[.agg ((AV D).toArray)] (fun _ => by kernel_rfl) (fun _ => by kernel_rfl) (R := RSl w12 (enA D)) (wenc D hok w12) ?_
    rintro _ w18 ⟨⟨a15, n16, c17, rfl, ha19⟩, hb20⟩
    replace hB := hB.go hb20
    replace h := h.go hb20
    replace hr9 := hr9.go hb20
    refine rp 25 (.slice x n c) ?_
    refine rw_call 26 10 #[.slice a15 n16 c17, .slice x n c] (fun _ => by kernel_rfl) (fun _ => by kernel_rfl) (R := RVl w18 (.bool true)) (wsame_e ha19 h hE2) ?_
    rintro _ w21 ⟨rfl, hb22⟩
    replace hB := hB.go hb22
    replace h := h.go hb22
    replace hr9 := hr9.go hb22
    replace ha19 := ha19.go hb22
    refine rp 27 (.bool false) ?_
    refine rp 28 (.bool false) ?_
    refine rp 29 (.bool false) ?_
    refine rp 30 (.bool false) ?_
    refine rp 31 (.int .i64 er) ?_
    refine rv 32 (.bool false) (fun _ => ol_conv (v := .bool (!((er : Int) == (0 : Int)))) (by kernel_rfl) (congrArg Value.bool (by rw [hq14]; rfl))) ?_
    refine rp 33 (.bool false) ?_
    refine rw_off 34 (fun _ => by kernel_rfl) ?_
    refine rw_off 35 (fun _ => by kernel_rfl) ?_
    refine rw_off 36 (fun _ => by kernel_rfl) ?_
    refine rp 37 (.bool false) ?_
    refine rp 38 (.bool false) ?_
    refine rw_nil ?_
    refine nw_then ?_
    refine cw_cond_f (fun _ => by kernel_rfl) ?_
    refine cw_skip ?_
    refine nw_then ?_
    refine cw_seq ?_
    refine cw_region ?_
    refine rp 39 (.int .i64 120) ?_
    refine rp 40 (.bool false) ?_
    refine rp 41 (.slice x n c) ?_
    refine rp 42 (.int .i64 n) ?_
    refine rv 43 (.bool false) (fun _ => ol_conv (v := .bool (decide ((n : Int) ≤ (8 : Int)))) (by kernel_rfl) (congrArg Value.bool (decide_eq_false (by omega)))) ?_
    refine rp 44 (.bool false) ?_
    refine rw_off 45 (fun _ => by kernel_rfl) ?_
    refine rw_off 46 (fun _ => by kernel_rfl) ?_
    refine rw_off 47 (fun _ => by kernel_rfl) ?_
    refine rw_off 48 (fun _ => by kernel_rfl) ?_
    refine rw_off 49 (fun _ => by kernel_rfl) ?_
    refine rw_off 50 (fun _ => by kernel_rfl) ?_
    refine rw_off 51 (fun _ => by kernel_rfl) ?_
    refine rw_off 52 (fun _ => by kernel_rfl) ?_
    refine rw_off 53 (fun _ => by kernel_rfl) ?_
    refine rp 54 (.bool false) ?_
    refine rp 55 (.bool true) ?_
    refine rp 56 (.bool true) ?_
    refine rp 57 (.int .i64 120) ?_
    refine rp 58 (.bool true) ?_
    refine rp 59 (.bool true) ?_
    refine rw_off 60 (fun _ => by kernel_rfl) ?_
    refine rw_off 61 (fun _ => by kernel_rfl) ?_
    refine rw_off 62 (fun _ => by kernel_rfl) ?_
    refine rw_off 63 (fun _ => by kernel_rfl) ?_
    refine rp 64 (.bool true) ?_
    refine rp 65 (.bool true) ?_
    refine rp 2 (.bool true) ?_
    refine rw_nil ?_
    refine nw_then ?_
    refine cw_ret ?_
    refine nw_ret_body (.bool true) (fun _ => by kernel_rfl) ?_
    exact ⟨rfl, hB⟩
  | false =>
    have hN2 := hN (fun e => by rw [e] at hq14; cases hq14)
    refine rw_off 23 (fun _ => by kernel_rfl) ?_
    refine rw_off 24 (fun _ => by kernel_rfl) ?_
    refine rw_off 25 (fun _ => by kernel_rfl) ?_
    refine rw_off 26 (fun _ => by kernel_rfl) ?_
    refine rw_off 27 (fun _ => by kernel_rfl) ?_
    refine rp 28 (.bool false) ?_
    refine rp 29 (.bool false) ?_
    refine rp 30 (.bool false) ?_
    refine rp 31 (.int .i64 er) ?_
    refine rv 32 (.bool true) (fun _ => ol_conv (v := .bool (!((er : Int) == (0 : Int)))) (by kernel_rfl) (congrArg Value.bool (by rw [hq14]; rfl))) ?_
    refine rp 33 (.bool true) ?_
    refine rv 34 (.agg ((AV D).toArray)) (fun _ => ol_row 26 _ _ _ _ _ _ rfl (by kernel_rfl) hr9 Try.underlying26 rfl (infoA hok)) ?_
    refine rv 35 (.agg (AV zA).toArray) (fun _ => ol_build 26 _ rfl [] (by kernel_rfl) _ built_Az) ?_
    refine rv 36 (.bool false) (fun _ => ol_conv (ol_neqA rfl (by kernel_rfl) (by kernel_rfl) hok zA_ok) (congrArg (fun q => Value.bool (!q)) (eqP_iff.2 hN2))) ?_
    refine rp 37 (.bool false) ?_
    refine rp 38 (.bool false) ?_
    refine rw_nil ?_
    refine nw_then ?_
    refine cw_cond_f (fun _ => by kernel_rfl) ?_
    refine cw_skip ?_
    refine nw_then ?_
    refine cw_seq ?_
    refine cw_region ?_
    refine rp 39 (.int .i64 120) ?_
    refine rp 40 (.bool false) ?_
    refine rp 41 (.slice x n c) ?_
    refine rp 42 (.int .i64 n) ?_
    refine rv 43 (.bool false) (fun _ => ol_conv (v := .bool (decide ((n : Int) ≤ (8 : Int)))) (by kernel_rfl) (congrArg Value.bool (decide_eq_false (by omega)))) ?_
    refine rp 44 (.bool false) ?_
    refine rw_off 45 (fun _ => by kernel_rfl) ?_
    refine rw_off 46 (fun _ => by kernel_rfl) ?_
    refine rw_off 47 (fun _ => by kernel_rfl) ?_
    refine rw_off 48 (fun _ => by kernel_rfl) ?_
    refine rw_off 49 (fun _ => by kernel_rfl) ?_
    refine rw_off 50 (fun _ => by kernel_rfl) ?_
    refine rw_off 51 (fun _ => by kernel_rfl) ?_
    refine rw_off 52 (fun _ => by kernel_rfl) ?_
    refine rw_off 53 (fun _ => by kernel_rfl) ?_
    refine rp 54 (.bool false) ?_
    refine rp 55 (.bool true) ?_
    refine rp 56 (.bool true) ?_
    refine rp 57 (.int .i64 120) ?_
    refine rp 58 (.bool true) ?_
    refine rp 59 (.bool true) ?_
    refine rw_off 60 (fun _ => by kernel_rfl) ?_
    refine rw_off 61 (fun _ => by kernel_rfl) ?_
    refine rw_off 62 (fun _ => by kernel_rfl) ?_
    refine rw_off 63 (fun _ => by kernel_rfl) ?_
    refine rp 64 (.bool true) ?_
    refine rp 65 (.bool true) ?_
    refine rp 2 (.bool true) ?_
    refine rw_nil ?_
    refine nw_then ?_
    refine cw_ret ?_
    refine nw_ret_body (.bool true) (fun _ => by kernel_rfl) ?_
    exact ⟨rfl, hB⟩
set_option maxHeartbeats 1000000 in
theorem only_none (x : Option Addr) (n c : Nat) (b : List Int) (hn : n ≤ 140737488351232) (w : World) (h : Ag w x n c b) (h0 : n = 0) : Calls Try.prog 7 #[.slice x n c] w (Law12 w) := by
  have hok := deA_ok h.b
  have hll := h.l
  have hE : (if (deA b).isSome then 0 else 120 : Int) = 0 → enA ((deA b).getD zA) = b := fun e => by
    cases hd : deA b with
    | none => rw [hd] at e; cases e
    | some a => exact (de_some h.b hd).2.1
  have hN : (if (deA b).isSome then 0 else 120 : Int) ≠ 0 → (deA b).getD zA = zA := fun e => by
    cases hd : deA b with
    | none => rfl
    | some a => rw [hd] at e; exact absurd rfl e
  obtain ⟨D, hD⟩ : ∃ D, (deA b).getD zA = D := ⟨_, rfl⟩
  obtain ⟨er, her⟩ : ∃ er : Int, (if (deA b).isSome then 0 else 120) = er := ⟨_, rfl⟩
  rw [hD] at hok
  rw [hD, her] at hE hN
  have hb0 : b = [] := List.eq_nil_of_length_eq_zero (by omega)
  subst hb0 h0
  have hrd : Wo.rdP [] = (0, true) := rfl
  have hB : Bl w w := Bl.refl w
  refine cw_enter Try.func7 rfl 66 rfl ?_
  show CW _ _ _ _ _ _ _ [(0, .slice x 0 c)] _
  refine cw_seq ?_
  refine cw_region ?_
  refine rp 2 (.bool false) ?_
  refine rw_nil ?_
  refine nw_then ?_
  refine cw_seq ?_
  refine cw_region ?_
  refine rp 8 (.slice x 0 c) ?_
  refine rw_call 9 15 #[.slice x 0 c] (fun _ => by kernel_rfl) (fun _ => by kernel_rfl) (R := RVl w (.tuple #[.agg (AV D).toArray, .int .i64 er])) (by have := wde h (by omega); rw [hD, her] at this; exact this) ?_
  rintro _ w1 ⟨rfl, hb2⟩
  replace hB := hB.go hb2
  replace h := h.go hb2
  refine rp 7 (.tuple #[.agg (AV D).toArray, .int .i64 er]) ?_
  refine rp 10 (.agg (AV D).toArray) ?_
  refine rp 11 (.int .i64 er) ?_
  refine rw_new 3 ((AV zA).toArray) 26 (fun _ => by kernel_rfl) (fun _ => by kernel_rfl) ?_
  intro w3 g4 hn5
  have hr6 : Rw g4 w3 ((AV zA).toArray) 26 := hn5.row
  refine rw_put g4 ((AV D).toArray) (fun _ => by kernel_rfl) (fun _ => ol_store 26 _ _ _ _ _ 26 rfl (by kernel_rfl) (by kernel_rfl) hr6 (infoA hok) (AV_size zA_ok hok) (AV_one _)) ?_
  intro w7 hp8
  have hbg4 : Below w1.heap.size w1 w7 := hp8.below hn5.below (Nat.le_of_eq hn5.hg.symm) (by have := hn5.size; have := hn5.hg; omega)
  have hzg4 : w.heap.size ≤ g4 := by have := hB.size; have := hn5.hg; omega
  replace hB := hB.go hbg4
  replace h := h.go hbg4
  have hr9 : Rw g4 w7 ((AV D).toArray) 26 := hr6.put hp8
  refine rp 4 (.int .i64 er) ?_
  refine rw_nil ?_
  refine nw_then ?_
  refine cw_seq ?_
  refine cw_region ?_
  refine rp 13 (.slice x 0 c) ?_
  refine rw_call 14 17 #[.slice x 0 c] (fun _ => by kernel_rfl) (fun _ => by kernel_rfl) (R := RVl w7 (.tuple #[.int .u64 0, .int .i64 0])) (by have := wacread h (by omega); rw [hrd] at this; exact this) ?_
  rintro _ w10 ⟨rfl, hb11⟩
  replace hB := hB.go hb11
  replace h := h.go hb11
  replace hr9 := hr9.go hb11
  refine rp 12 (.tuple #[.int .u64 0, .int .i64 0]) ?_
  refine rp 15 (.int .u64 0) ?_
  refine rp 16 (.int .i64 0) ?_
  refine rp 5 (.int .u64 0) ?_
  refine rp 6 (.int .i64 0) ?_
  refine rw_nil ?_
  refine nw_then ?_
  refine cw_seq ?_
  refine cw_seq ?_
  refine cw_region ?_
  refine rw_call 17 9 #[] (fun _ => by kernel_rfl) (fun _ => by kernel_rfl) (R := RVl w10 (.bool true)) (walive w10) ?_
  rintro _ w12 ⟨rfl, hb13⟩
  replace hB := hB.go hb13
  replace h := h.go hb13
  replace hr9 := hr9.go hb13
  refine rp 18 (.bool false) ?_
  refine rp 19 (.bool false) ?_
  refine rp 20 (.int .i64 er) ?_
  refine rp 21 (.bool ((er : Int) == (0 : Int))) ?_
  refine rp 22 (.bool ((er : Int) == (0 : Int))) ?_
  cases hq14 : ((er : Int) == (0 : Int)) with
  | true =>
    have hE2 := hE (eq_of_beq hq14)
    refine rv 23 (.agg ((AV D).toArray)) (fun _ => ol_row 26 _ _ _ _ _ _ rfl (by kernel_rfl) hr9 Try.underlying26 rfl (infoA hok)) ?_
    refine rw_call 24 11 #[.agg ((AV D).toArray)] (fun _ => by kernel_rfl) (fun _ => by kernel_rfl) (R := RSl w12 (enA D)) (wenc D hok w12) ?_
    rintro _ w18 ⟨⟨a15, n16, c17, rfl, ha19⟩, hb20⟩
    replace hB := hB.go hb20
    replace h := h.go hb20
    replace hr9 := hr9.go hb20
    refine rp 25 (.slice x 0 c) ?_
    refine rw_call 26 10 #[.slice a15 n16 c17, .slice x 0 c] (fun _ => by kernel_rfl) (fun _ => by kernel_rfl) (R := RVl w18 (.bool true)) (wsame_e ha19 h hE2) ?_
    rintro _ w21 ⟨rfl, hb22⟩
    replace hB := hB.go hb22
    replace h := h.go hb22
    replace hr9 := hr9.go hb22
    replace ha19 := ha19.go hb22
    refine rp 27 (.bool false) ?_
    refine rp 28 (.bool false) ?_
    refine rp 29 (.bool false) ?_
    refine rp 30 (.bool false) ?_
    refine rp 31 (.int .i64 er) ?_
    refine rv 32 (.bool false) (fun _ => ol_conv (v := .bool (!((er : Int) == (0 : Int)))) (by kernel_rfl) (congrArg Value.bool (by rw [hq14]; rfl))) ?_
    refine rp 33 (.bool false) ?_
    refine rw_off 34 (fun _ => by kernel_rfl) ?_
    refine rw_off 35 (fun _ => by kernel_rfl) ?_
    refine rw_off 36 (fun _ => by kernel_rfl) ?_
    refine rp 37 (.bool false) ?_
    refine rp 38 (.bool false) ?_
    refine rw_nil ?_
    refine nw_then ?_
    refine cw_cond_f (fun _ => by kernel_rfl) ?_
    refine cw_skip ?_
    refine nw_then ?_
    refine cw_seq ?_
    refine cw_region ?_
    refine rp 39 (.int .i64 0) ?_
    refine rp 40 (.bool true) ?_
    refine rp 41 (.slice x 0 c) ?_
    refine rp 42 (.int .i64 0) ?_
    refine rp 43 (.bool true) ?_
    refine rp 44 (.bool true) ?_
    refine rp 45 (.slice x 0 c) ?_
    refine rp 46 (.int .i64 0) ?_
    refine rp 47 (.bool true) ?_
    refine rp 48 (.bool true) ?_
    refine rw_off 49 (fun _ => by kernel_rfl) ?_
    refine rw_off 50 (fun _ => by kernel_rfl) ?_
    refine rw_off 51 (fun _ => by kernel_rfl) ?_
    refine rw_off 52 (fun _ => by kernel_rfl) ?_
    refine rp 53 (.bool true) ?_
    refine rp 54 (.bool true) ?_
    refine rp 55 (.bool true) ?_
    refine rp 56 (.bool true) ?_
    refine rp 57 (.int .i64 0) ?_
    refine rp 58 (.bool false) ?_
    refine rp 59 (.bool false) ?_
    refine rp 60 (.int .u64 0) ?_
    refine rw_call 61 19 #[.int .u64 0] (fun _ => by kernel_rfl) (fun _ => by kernel_rfl) (R := RSl w21 (be 0)) (wvalue 0 (by decide) w21) ?_
    rintro _ w26 ⟨⟨a23, n24, c25, rfl, ha27⟩, hb28⟩
    replace hB := hB.go hb28
    replace h := h.go hb28
    replace hr9 := hr9.go hb28
    replace ha19 := ha19.go hb28
    refine rp 62 (.slice x 0 c) ?_
    refine rw_call 63 10 #[.slice a23 n24 c25, .slice x 0 c] (fun _ => by kernel_rfl) (fun _ => by kernel_rfl) (R := RVl w26 (.bool true)) (wsame_e ha27 h be_zero) ?_
    rintro _ w29 ⟨rfl, hb30⟩
    replace hB := hB.go hb30
    replace h := h.go hb30
    replace hr9 := hr9.go hb30
    replace ha19 := ha19.go hb30
    replace ha27 := ha27.go hb30
    refine rp 64 (.bool true) ?_
    refine rp 65 (.bool true) ?_
    refine rp 2 (.bool true) ?_
    refine rw_nil ?_
    refine nw_then ?_
    refine cw_ret ?_
    refine nw_ret_body (.bool true) (fun _ => by kernel_rfl) ?_
    exact ⟨rfl, hB⟩
  | false =>
    have hN2 := hN (fun e => by rw [e] at hq14; cases hq14)
    refine rw_off 23 (fun _ => by kernel_rfl) ?_
    refine rw_off 24 (fun _ => by kernel_rfl) ?_
    refine rw_off 25 (fun _ => by kernel_rfl) ?_
    refine rw_off 26 (fun _ => by kernel_rfl) ?_
    refine rw_off 27 (fun _ => by kernel_rfl) ?_
    refine rp 28 (.bool false) ?_
    refine rp 29 (.bool false) ?_
    refine rp 30 (.bool false) ?_
    refine rp 31 (.int .i64 er) ?_
    refine rv 32 (.bool true) (fun _ => ol_conv (v := .bool (!((er : Int) == (0 : Int)))) (by kernel_rfl) (congrArg Value.bool (by rw [hq14]; rfl))) ?_
    refine rp 33 (.bool true) ?_
    refine rv 34 (.agg ((AV D).toArray)) (fun _ => ol_row 26 _ _ _ _ _ _ rfl (by kernel_rfl) hr9 Try.underlying26 rfl (infoA hok)) ?_
    refine rv 35 (.agg (AV zA).toArray) (fun _ => ol_build 26 _ rfl [] (by kernel_rfl) _ built_Az) ?_
    refine rv 36 (.bool false) (fun _ => ol_conv (ol_neqA rfl (by kernel_rfl) (by kernel_rfl) hok zA_ok) (congrArg (fun q => Value.bool (!q)) (eqP_iff.2 hN2))) ?_
    refine rp 37 (.bool false) ?_
    refine rp 38 (.bool false) ?_
    refine rw_nil ?_
    refine nw_then ?_
    refine cw_cond_f (fun _ => by kernel_rfl) ?_
    refine cw_skip ?_
    refine nw_then ?_
    refine cw_seq ?_
    refine cw_region ?_
    refine rp 39 (.int .i64 0) ?_
    refine rp 40 (.bool true) ?_
    refine rp 41 (.slice x 0 c) ?_
    refine rp 42 (.int .i64 0) ?_
    refine rp 43 (.bool true) ?_
    refine rp 44 (.bool true) ?_
    refine rp 45 (.slice x 0 c) ?_
    refine rp 46 (.int .i64 0) ?_
    refine rp 47 (.bool true) ?_
    refine rp 48 (.bool true) ?_
    refine rw_off 49 (fun _ => by kernel_rfl) ?_
    refine rw_off 50 (fun _ => by kernel_rfl) ?_
    refine rw_off 51 (fun _ => by kernel_rfl) ?_
    refine rw_off 52 (fun _ => by kernel_rfl) ?_
    refine rp 53 (.bool true) ?_
    refine rp 54 (.bool true) ?_
    refine rp 55 (.bool true) ?_
    refine rp 56 (.bool true) ?_
    refine rp 57 (.int .i64 0) ?_
    refine rp 58 (.bool false) ?_
    refine rp 59 (.bool false) ?_
    refine rp 60 (.int .u64 0) ?_
    refine rw_call 61 19 #[.int .u64 0] (fun _ => by kernel_rfl) (fun _ => by kernel_rfl) (R := RSl w12 (be 0)) (wvalue 0 (by decide) w12) ?_
    rintro _ w34 ⟨⟨a31, n32, c33, rfl, ha35⟩, hb36⟩
    replace hB := hB.go hb36
    replace h := h.go hb36
    replace hr9 := hr9.go hb36
    refine rp 62 (.slice x 0 c) ?_
    refine rw_call 63 10 #[.slice a31 n32 c33, .slice x 0 c] (fun _ => by kernel_rfl) (fun _ => by kernel_rfl) (R := RVl w34 (.bool true)) (wsame_e ha35 h be_zero) ?_
    rintro _ w37 ⟨rfl, hb38⟩
    replace hB := hB.go hb38
    replace h := h.go hb38
    replace hr9 := hr9.go hb38
    replace ha35 := ha35.go hb38
    refine rp 64 (.bool true) ?_
    refine rp 65 (.bool true) ?_
    refine rp 2 (.bool true) ?_
    refine rw_nil ?_
    refine nw_then ?_
    refine cw_ret ?_
    refine nw_ret_body (.bool true) (fun _ => by kernel_rfl) ?_
    exact ⟨rfl, hB⟩
set_option maxHeartbeats 1000000 in
theorem only_zero (x : Option Addr) (n c : Nat) (b : List Int) (hn : n ≤ 140737488351232) (w : World) (h : Ag w x n c b) (h8 : n ≤ 8) (h0 : 0 < n) (hz : b.getD 0 0 = 0) : Calls Try.prog 7 #[.slice x n c] w (Law12 w) := by
  have hok := deA_ok h.b
  have hll := h.l
  have hE : (if (deA b).isSome then 0 else 120 : Int) = 0 → enA ((deA b).getD zA) = b := fun e => by
    cases hd : deA b with
    | none => rw [hd] at e; cases e
    | some a => exact (de_some h.b hd).2.1
  have hN : (if (deA b).isSome then 0 else 120 : Int) ≠ 0 → (deA b).getD zA = zA := fun e => by
    cases hd : deA b with
    | none => rfl
    | some a => rw [hd] at e; exact absurd rfl e
  obtain ⟨D, hD⟩ : ∃ D, (deA b).getD zA = D := ⟨_, rfl⟩
  obtain ⟨er, her⟩ : ∃ er : Int, (if (deA b).isSome then 0 else 120) = er := ⟨_, rfl⟩
  rw [hD] at hok
  rw [hD, her] at hE hN
  have hrd : Wo.rdP b = (0, false) := by unfold Wo.rdP; rw [if_pos (by exact .inr ⟨by omega, hz⟩)]
  have hB : Bl w w := Bl.refl w
  refine cw_enter Try.func7 rfl 66 rfl ?_
  show CW _ _ _ _ _ _ _ [(0, .slice x n c)] _
  refine cw_seq ?_
  refine cw_region ?_
  refine rp 2 (.bool false) ?_
  refine rw_nil ?_
  refine nw_then ?_
  refine cw_seq ?_
  refine cw_region ?_
  refine rp 8 (.slice x n c) ?_
  refine rw_call 9 15 #[.slice x n c] (fun _ => by kernel_rfl) (fun _ => by kernel_rfl) (R := RVl w (.tuple #[.agg (AV D).toArray, .int .i64 er])) (by have := wde h (by omega); rw [hD, her] at this; exact this) ?_
  rintro _ w1 ⟨rfl, hb2⟩
  replace hB := hB.go hb2
  replace h := h.go hb2
  refine rp 7 (.tuple #[.agg (AV D).toArray, .int .i64 er]) ?_
  refine rp 10 (.agg (AV D).toArray) ?_
  refine rp 11 (.int .i64 er) ?_
  refine rw_new 3 ((AV zA).toArray) 26 (fun _ => by kernel_rfl) (fun _ => by kernel_rfl) ?_
  intro w3 g4 hn5
  have hr6 : Rw g4 w3 ((AV zA).toArray) 26 := hn5.row
  refine rw_put g4 ((AV D).toArray) (fun _ => by kernel_rfl) (fun _ => ol_store 26 _ _ _ _ _ 26 rfl (by kernel_rfl) (by kernel_rfl) hr6 (infoA hok) (AV_size zA_ok hok) (AV_one _)) ?_
  intro w7 hp8
  have hbg4 : Below w1.heap.size w1 w7 := hp8.below hn5.below (Nat.le_of_eq hn5.hg.symm) (by have := hn5.size; have := hn5.hg; omega)
  have hzg4 : w.heap.size ≤ g4 := by have := hB.size; have := hn5.hg; omega
  replace hB := hB.go hbg4
  replace h := h.go hbg4
  have hr9 : Rw g4 w7 ((AV D).toArray) 26 := hr6.put hp8
  refine rp 4 (.int .i64 er) ?_
  refine rw_nil ?_
  refine nw_then ?_
  refine cw_seq ?_
  refine cw_region ?_
  refine rp 13 (.slice x n c) ?_
  refine rw_call 14 17 #[.slice x n c] (fun _ => by kernel_rfl) (fun _ => by kernel_rfl) (R := RVl w7 (.tuple #[.int .u64 0, .int .i64 120])) (by have := wacread h (by omega); rw [hrd] at this; exact this) ?_
  rintro _ w10 ⟨rfl, hb11⟩
  replace hB := hB.go hb11
  replace h := h.go hb11
  replace hr9 := hr9.go hb11
  refine rp 12 (.tuple #[.int .u64 0, .int .i64 120]) ?_
  refine rp 15 (.int .u64 0) ?_
  refine rp 16 (.int .i64 120) ?_
  refine rp 5 (.int .u64 0) ?_
  refine rp 6 (.int .i64 120) ?_
  refine rw_nil ?_
  refine nw_then ?_
  refine cw_seq ?_
  refine cw_seq ?_
  refine cw_region ?_
  refine rw_call 17 9 #[] (fun _ => by kernel_rfl) (fun _ => by kernel_rfl) (R := RVl w10 (.bool true)) (walive w10) ?_
  rintro _ w12 ⟨rfl, hb13⟩
  replace hB := hB.go hb13
  replace h := h.go hb13
  replace hr9 := hr9.go hb13
  refine rp 18 (.bool false) ?_
  refine rp 19 (.bool false) ?_
  refine rp 20 (.int .i64 er) ?_
  refine rp 21 (.bool ((er : Int) == (0 : Int))) ?_
  refine rp 22 (.bool ((er : Int) == (0 : Int))) ?_
  cases hq14 : ((er : Int) == (0 : Int)) with
  | true =>
    have hE2 := hE (eq_of_beq hq14)
    refine rv 23 (.agg ((AV D).toArray)) (fun _ => ol_row 26 _ _ _ _ _ _ rfl (by kernel_rfl) hr9 Try.underlying26 rfl (infoA hok)) ?_
    refine rw_call 24 11 #[.agg ((AV D).toArray)] (fun _ => by kernel_rfl) (fun _ => by kernel_rfl) (R := RSl w12 (enA D)) (wenc D hok w12) ?_
    rintro _ w18 ⟨⟨a15, n16, c17, rfl, ha19⟩, hb20⟩
    replace hB := hB.go hb20
    replace h := h.go hb20
    replace hr9 := hr9.go hb20
    refine rp 25 (.slice x n c) ?_
    refine rw_call 26 10 #[.slice a15 n16 c17, .slice x n c] (fun _ => by kernel_rfl) (fun _ => by kernel_rfl) (R := RVl w18 (.bool true)) (wsame_e ha19 h hE2) ?_
    rintro _ w21 ⟨rfl, hb22⟩
    replace hB := hB.go hb22
    replace h := h.go hb22
    replace hr9 := hr9.go hb22
    replace ha19 := ha19.go hb22
    refine rp 27 (.bool false) ?_
    refine rp 28 (.bool false) ?_
    refine rp 29 (.bool false) ?_
    refine rp 30 (.bool false) ?_
    refine rp 31 (.int .i64 er) ?_
    refine rv 32 (.bool false) (fun _ => ol_conv (v := .bool (!((er : Int) == (0 : Int)))) (by kernel_rfl) (congrArg Value.bool (by rw [hq14]; rfl))) ?_
    refine rp 33 (.bool false) ?_
    refine rw_off 34 (fun _ => by kernel_rfl) ?_
    refine rw_off 35 (fun _ => by kernel_rfl) ?_
    refine rw_off 36 (fun _ => by kernel_rfl) ?_
    refine rp 37 (.bool false) ?_
    refine rp 38 (.bool false) ?_
    refine rw_nil ?_
    refine nw_then ?_
    refine cw_cond_f (fun _ => by kernel_rfl) ?_
    refine cw_skip ?_
    refine nw_then ?_
    refine cw_seq ?_
    obtain ⟨gb, off, rfl, _, _, hcs⟩ := ag_head h h0
    have hc0 := hcs 0 h0
    rw [hz] at hc0
    refine cw_region ?_
    refine rp 39 (.int .i64 120) ?_
    refine rp 40 (.bool false) ?_
    refine rp 41 (.slice (some ⟨gb, off, none⟩) n c) ?_
    refine rp 42 (.int .i64 n) ?_
    refine rv 43 (.bool true) (fun _ => ol_conv (v := .bool (decide ((n : Int) ≤ (8 : Int)))) (by kernel_rfl) (congrArg Value.bool (decide_eq_true (by omega)))) ?_
    refine rp 44 (.bool true) ?_
    refine rp 45 (.slice (some ⟨gb, off, none⟩) n c) ?_
    refine rp 46 (.int .i64 n) ?_
    refine rv 47 (.bool false) (fun _ => ol_conv (v := .bool ((n : Int) == (0 : Int))) (by kernel_rfl) (congrArg Value.bool (beq_eq_false_iff_ne.2 (by omega)))) ?_
    refine rp 48 (.bool false) ?_
    refine rp 49 (.slice (some ⟨gb, off, none⟩) n c) ?_
    refine rv 50 (.pointer (some ⟨gb, off + 0 * 1, none⟩)) (fun _ => ol_index 29 _ _ gb off 0 n c 1 5 rfl (by kernel_rfl) (by kernel_rfl) h0 Try.underlying29 (by kernel_rfl)) ?_
    refine rv 51 (.int .u8 0) (fun _ => ol_cell 5 _ ⟨gb, off + 0 * 1, none⟩ _ _ rfl (by kernel_rfl) hc0 Try.underlying5 rfl) ?_
    refine rp 52 (.bool false) ?_
    refine rp 53 (.bool false) ?_
    refine rp 54 (.bool false) ?_
    refine rp 55 (.bool true) ?_
    refine rp 56 (.bool true) ?_
    refine rp 57 (.int .i64 120) ?_
    refine rp 58 (.bool true) ?_
    refine rp 59 (.bool true) ?_
    refine rw_off 60 (fun _ => by kernel_rfl) ?_
    refine rw_off 61 (fun _ => by kernel_rfl) ?_
    refine rw_off 62 (fun _ => by kernel_rfl) ?_
    refine rw_off 63 (fun _ => by kernel_rfl) ?_
    refine rp 64 (.bool true) ?_
    refine rp 65 (.bool true) ?_
    refine rp 2 (.bool true) ?_
    refine rw_nil ?_
    refine nw_then ?_
    refine cw_ret ?_
    refine nw_ret_body (.bool true) (fun _ => by kernel_rfl) ?_
    exact ⟨rfl, hB⟩
  | false =>
    have hN2 := hN (fun e => by rw [e] at hq14; cases hq14)
    refine rw_off 23 (fun _ => by kernel_rfl) ?_
    refine rw_off 24 (fun _ => by kernel_rfl) ?_
    refine rw_off 25 (fun _ => by kernel_rfl) ?_
    refine rw_off 26 (fun _ => by kernel_rfl) ?_
    refine rw_off 27 (fun _ => by kernel_rfl) ?_
    refine rp 28 (.bool false) ?_
    refine rp 29 (.bool false) ?_
    refine rp 30 (.bool false) ?_
    refine rp 31 (.int .i64 er) ?_
    refine rv 32 (.bool true) (fun _ => ol_conv (v := .bool (!((er : Int) == (0 : Int)))) (by kernel_rfl) (congrArg Value.bool (by rw [hq14]; rfl))) ?_
    refine rp 33 (.bool true) ?_
    refine rv 34 (.agg ((AV D).toArray)) (fun _ => ol_row 26 _ _ _ _ _ _ rfl (by kernel_rfl) hr9 Try.underlying26 rfl (infoA hok)) ?_
    refine rv 35 (.agg (AV zA).toArray) (fun _ => ol_build 26 _ rfl [] (by kernel_rfl) _ built_Az) ?_
    refine rv 36 (.bool false) (fun _ => ol_conv (ol_neqA rfl (by kernel_rfl) (by kernel_rfl) hok zA_ok) (congrArg (fun q => Value.bool (!q)) (eqP_iff.2 hN2))) ?_
    refine rp 37 (.bool false) ?_
    refine rp 38 (.bool false) ?_
    refine rw_nil ?_
    refine nw_then ?_
    refine cw_cond_f (fun _ => by kernel_rfl) ?_
    refine cw_skip ?_
    refine nw_then ?_
    refine cw_seq ?_
    obtain ⟨gb, off, rfl, _, _, hcs⟩ := ag_head h h0
    have hc0 := hcs 0 h0
    rw [hz] at hc0
    refine cw_region ?_
    refine rp 39 (.int .i64 120) ?_
    refine rp 40 (.bool false) ?_
    refine rp 41 (.slice (some ⟨gb, off, none⟩) n c) ?_
    refine rp 42 (.int .i64 n) ?_
    refine rv 43 (.bool true) (fun _ => ol_conv (v := .bool (decide ((n : Int) ≤ (8 : Int)))) (by kernel_rfl) (congrArg Value.bool (decide_eq_true (by omega)))) ?_
    refine rp 44 (.bool true) ?_
    refine rp 45 (.slice (some ⟨gb, off, none⟩) n c) ?_
    refine rp 46 (.int .i64 n) ?_
    refine rv 47 (.bool false) (fun _ => ol_conv (v := .bool ((n : Int) == (0 : Int))) (by kernel_rfl) (congrArg Value.bool (beq_eq_false_iff_ne.2 (by omega)))) ?_
    refine rp 48 (.bool false) ?_
    refine rp 49 (.slice (some ⟨gb, off, none⟩) n c) ?_
    refine rv 50 (.pointer (some ⟨gb, off + 0 * 1, none⟩)) (fun _ => ol_index 29 _ _ gb off 0 n c 1 5 rfl (by kernel_rfl) (by kernel_rfl) h0 Try.underlying29 (by kernel_rfl)) ?_
    refine rv 51 (.int .u8 0) (fun _ => ol_cell 5 _ ⟨gb, off + 0 * 1, none⟩ _ _ rfl (by kernel_rfl) hc0 Try.underlying5 rfl) ?_
    refine rp 52 (.bool false) ?_
    refine rp 53 (.bool false) ?_
    refine rp 54 (.bool false) ?_
    refine rp 55 (.bool true) ?_
    refine rp 56 (.bool true) ?_
    refine rp 57 (.int .i64 120) ?_
    refine rp 58 (.bool true) ?_
    refine rp 59 (.bool true) ?_
    refine rw_off 60 (fun _ => by kernel_rfl) ?_
    refine rw_off 61 (fun _ => by kernel_rfl) ?_
    refine rw_off 62 (fun _ => by kernel_rfl) ?_
    refine rw_off 63 (fun _ => by kernel_rfl) ?_
    refine rp 64 (.bool true) ?_
    refine rp 65 (.bool true) ?_
    refine rp 2 (.bool true) ?_
    refine rw_nil ?_
    refine nw_then ?_
    refine cw_ret ?_
    refine nw_ret_body (.bool true) (fun _ => by kernel_rfl) ?_
    exact ⟨rfl, hB⟩
set_option maxHeartbeats 1000000 in
theorem only_word (x : Option Addr) (n c : Nat) (b : List Int) (hn : n ≤ 140737488351232) (w : World) (h : Ag w x n c b) (h8 : n ≤ 8) (h0 : 0 < n) (hz : b.getD 0 0 ≠ 0) : Calls Try.prog 7 #[.slice x n c] w (Law12 w) := by
  have hok := deA_ok h.b
  have hll := h.l
  have hE : (if (deA b).isSome then 0 else 120 : Int) = 0 → enA ((deA b).getD zA) = b := fun e => by
    cases hd : deA b with
    | none => rw [hd] at e; cases e
    | some a => exact (de_some h.b hd).2.1
  have hN : (if (deA b).isSome then 0 else 120 : Int) ≠ 0 → (deA b).getD zA = zA := fun e => by
    cases hd : deA b with
    | none => rfl
    | some a => rw [hd] at e; exact absurd rfl e
  obtain ⟨D, hD⟩ : ∃ D, (deA b).getD zA = D := ⟨_, rfl⟩
  obtain ⟨er, her⟩ : ∃ er : Int, (if (deA b).isSome then 0 else 120) = er := ⟨_, rfl⟩
  rw [hD] at hok
  rw [hD, her] at hE hN
  have hwd : wdA b = some (Wo.vl b) := by unfold wdA; rw [if_neg (fun q => q.elim (fun q => by omega) (fun q => hz q.2))]
  have hrd : Wo.rdP b = (Wo.vl b, true) := by unfold Wo.rdP; rw [if_neg (fun q => q.elim (fun q => by omega) (fun q => hz q.2))]
  obtain ⟨hv1, hv2⟩ := wd_some h.b hwd
  have hB : Bl w w := Bl.refl w
  refine cw_enter Try.func7 rfl 66 rfl ?_
  show CW _ _ _ _ _ _ _ [(0, .slice x n c)] _
  refine cw_seq ?_
  refine cw_region ?_
  refine rp 2 (.bool false) ?_
  refine rw_nil ?_
  refine nw_then ?_
  refine cw_seq ?_
  refine cw_region ?_
  refine rp 8 (.slice x n c) ?_
  refine rw_call 9 15 #[.slice x n c] (fun _ => by kernel_rfl) (fun _ => by kernel_rfl) (R := RVl w (.tuple #[.agg (AV D).toArray, .int .i64 er])) (by have := wde h (by omega); rw [hD, her] at this; exact this) ?_
  rintro _ w1 ⟨rfl, hb2⟩
  replace hB := hB.go hb2
  replace h := h.go hb2
  refine rp 7 (.tuple #[.agg (AV D).toArray, .int .i64 er]) ?_
  refine rp 10 (.agg (AV D).toArray) ?_
  refine rp 11 (.int .i64 er) ?_
  refine rw_new 3 ((AV zA).toArray) 26 (fun _ => by kernel_rfl) (fun _ => by kernel_rfl) ?_
  intro w3 g4 hn5
  have hr6 : Rw g4 w3 ((AV zA).toArray) 26 := hn5.row
  refine rw_put g4 ((AV D).toArray) (fun _ => by kernel_rfl) (fun _ => ol_store 26 _ _ _ _ _ 26 rfl (by kernel_rfl) (by kernel_rfl) hr6 (infoA hok) (AV_size zA_ok hok) (AV_one _)) ?_
  intro w7 hp8
  have hbg4 : Below w1.heap.size w1 w7 := hp8.below hn5.below (Nat.le_of_eq hn5.hg.symm) (by have := hn5.size; have := hn5.hg; omega)
  have hzg4 : w.heap.size ≤ g4 := by have := hB.size; have := hn5.hg; omega
  replace hB := hB.go hbg4
  replace h := h.go hbg4
  have hr9 : Rw g4 w7 ((AV D).toArray) 26 := hr6.put hp8
  refine rp 4 (.int .i64 er) ?_
  refine rw_nil ?_
  refine nw_then ?_
  refine cw_seq ?_
  refine cw_region ?_
  refine rp 13 (.slice x n c) ?_
  refine rw_call 14 17 #[.slice x n c] (fun _ => by kernel_rfl) (fun _ => by kernel_rfl) (R := RVl w7 (.tuple #[.int .u64 ((Wo.vl b : Nat) : Int), .int .i64 0])) (by have := wacread h (by omega); rw [hrd] at this; exact this) ?_
  rintro _ w10 ⟨rfl, hb11⟩
  replace hB := hB.go hb11
  replace h := h.go hb11
  replace hr9 := hr9.go hb11
  refine rp 12 (.tuple #[.int .u64 ((Wo.vl b : Nat) : Int), .int .i64 0]) ?_
  refine rp 15 (.int .u64 ((Wo.vl b : Nat) : Int)) ?_
  refine rp 16 (.int .i64 0) ?_
  refine rp 5 (.int .u64 ((Wo.vl b : Nat) : Int)) ?_
  refine rp 6 (.int .i64 0) ?_
  refine rw_nil ?_
  refine nw_then ?_
  refine cw_seq ?_
  refine cw_seq ?_
  refine cw_region ?_
  refine rw_call 17 9 #[] (fun _ => by kernel_rfl) (fun _ => by kernel_rfl) (R := RVl w10 (.bool true)) (walive w10) ?_
  rintro _ w12 ⟨rfl, hb13⟩
  replace hB := hB.go hb13
  replace h := h.go hb13
  replace hr9 := hr9.go hb13
  refine rp 18 (.bool false) ?_
  refine rp 19 (.bool false) ?_
  refine rp 20 (.int .i64 er) ?_
  refine rp 21 (.bool ((er : Int) == (0 : Int))) ?_
  refine rp 22 (.bool ((er : Int) == (0 : Int))) ?_
  cases hq14 : ((er : Int) == (0 : Int)) with
  | true =>
    have hE2 := hE (eq_of_beq hq14)
    refine rv 23 (.agg ((AV D).toArray)) (fun _ => ol_row 26 _ _ _ _ _ _ rfl (by kernel_rfl) hr9 Try.underlying26 rfl (infoA hok)) ?_
    refine rw_call 24 11 #[.agg ((AV D).toArray)] (fun _ => by kernel_rfl) (fun _ => by kernel_rfl) (R := RSl w12 (enA D)) (wenc D hok w12) ?_
    rintro _ w18 ⟨⟨a15, n16, c17, rfl, ha19⟩, hb20⟩
    replace hB := hB.go hb20
    replace h := h.go hb20
    replace hr9 := hr9.go hb20
    refine rp 25 (.slice x n c) ?_
    refine rw_call 26 10 #[.slice a15 n16 c17, .slice x n c] (fun _ => by kernel_rfl) (fun _ => by kernel_rfl) (R := RVl w18 (.bool true)) (wsame_e ha19 h hE2) ?_
    rintro _ w21 ⟨rfl, hb22⟩
    replace hB := hB.go hb22
    replace h := h.go hb22
    replace hr9 := hr9.go hb22
    replace ha19 := ha19.go hb22
    refine rp 27 (.bool false) ?_
    refine rp 28 (.bool false) ?_
    refine rp 29 (.bool false) ?_
    refine rp 30 (.bool false) ?_
    refine rp 31 (.int .i64 er) ?_
    refine rv 32 (.bool false) (fun _ => ol_conv (v := .bool (!((er : Int) == (0 : Int)))) (by kernel_rfl) (congrArg Value.bool (by rw [hq14]; rfl))) ?_
    refine rp 33 (.bool false) ?_
    refine rw_off 34 (fun _ => by kernel_rfl) ?_
    refine rw_off 35 (fun _ => by kernel_rfl) ?_
    refine rw_off 36 (fun _ => by kernel_rfl) ?_
    refine rp 37 (.bool false) ?_
    refine rp 38 (.bool false) ?_
    refine rw_nil ?_
    refine nw_then ?_
    refine cw_cond_f (fun _ => by kernel_rfl) ?_
    refine cw_skip ?_
    refine nw_then ?_
    refine cw_seq ?_
    obtain ⟨gb, off, rfl, _, _, hcs⟩ := ag_head h h0
    have hc0 := hcs 0 h0
    refine cw_region ?_
    refine rp 39 (.int .i64 0) ?_
    refine rp 40 (.bool true) ?_
    refine rp 41 (.slice (some ⟨gb, off, none⟩) n c) ?_
    refine rp 42 (.int .i64 n) ?_
    refine rv 43 (.bool true) (fun _ => ol_conv (v := .bool (decide ((n : Int) ≤ (8 : Int)))) (by kernel_rfl) (congrArg Value.bool (decide_eq_true (by omega)))) ?_
    refine rp 44 (.bool true) ?_
    refine rp 45 (.slice (some ⟨gb, off, none⟩) n c) ?_
    refine rp 46 (.int .i64 n) ?_
    refine rv 47 (.bool false) (fun _ => ol_conv (v := .bool ((n : Int) == (0 : Int))) (by kernel_rfl) (congrArg Value.bool (beq_eq_false_iff_ne.2 (by omega)))) ?_
    refine rp 48 (.bool false) ?_
    refine rp 49 (.slice (some ⟨gb, off, none⟩) n c) ?_
    refine rv 50 (.pointer (some ⟨gb, off + 0 * 1, none⟩)) (fun _ => ol_index 29 _ _ gb off 0 n c 1 5 rfl (by kernel_rfl) (by kernel_rfl) h0 Try.underlying29 (by kernel_rfl)) ?_
    refine rv 51 (.int .u8 (b.getD 0 0)) (fun _ => ol_cell 5 _ ⟨gb, off + 0 * 1, none⟩ _ _ rfl (by kernel_rfl) hc0 Try.underlying5 rfl) ?_
    refine rv 52 (.bool true) (fun _ => ol_conv (v := .bool (!((b.getD 0 0 : Int) == (0 : Int)))) (by kernel_rfl) (congrArg Value.bool (by rw [Bool.not_eq_true', beq_eq_false_iff_ne]; exact hz))) ?_
    refine rp 53 (.bool true) ?_
    refine rp 54 (.bool true) ?_
    refine rp 55 (.bool true) ?_
    refine rp 56 (.bool true) ?_
    refine rp 57 (.int .i64 0) ?_
    refine rp 58 (.bool false) ?_
    refine rp 59 (.bool false) ?_
    refine rp 60 (.int .u64 ((Wo.vl b : Nat) : Int)) ?_
    refine rw_call 61 19 #[.int .u64 ((Wo.vl b : Nat) : Int)] (fun _ => by kernel_rfl) (fun _ => by kernel_rfl) (R := RSl w21 (be (Wo.vl b))) (wvalue (Wo.vl b) hv1 w21) ?_
    rintro _ w26 ⟨⟨a23, n24, c25, rfl, ha27⟩, hb28⟩
    replace hB := hB.go hb28
    replace h := h.go hb28
    replace hr9 := hr9.go hb28
    replace ha19 := ha19.go hb28
    refine rp 62 (.slice (some ⟨gb, off, none⟩) n c) ?_
    refine rw_call 63 10 #[.slice a23 n24 c25, .slice (some ⟨gb, off, none⟩) n c] (fun _ => by kernel_rfl) (fun _ => by kernel_rfl) (R := RVl w26 (.bool true)) (wsame_e ha27 h hv2) ?_
    rintro _ w29 ⟨rfl, hb30⟩
    replace hB := hB.go hb30
    replace h := h.go hb30
    replace hr9 := hr9.go hb30
    replace ha19 := ha19.go hb30
    replace ha27 := ha27.go hb30
    refine rp 64 (.bool true) ?_
    refine rp 65 (.bool true) ?_
    refine rp 2 (.bool true) ?_
    refine rw_nil ?_
    refine nw_then ?_
    refine cw_ret ?_
    refine nw_ret_body (.bool true) (fun _ => by kernel_rfl) ?_
    exact ⟨rfl, hB⟩
  | false =>
    have hN2 := hN (fun e => by rw [e] at hq14; cases hq14)
    refine rw_off 23 (fun _ => by kernel_rfl) ?_
    refine rw_off 24 (fun _ => by kernel_rfl) ?_
    refine rw_off 25 (fun _ => by kernel_rfl) ?_
    refine rw_off 26 (fun _ => by kernel_rfl) ?_
    refine rw_off 27 (fun _ => by kernel_rfl) ?_
    refine rp 28 (.bool false) ?_
    refine rp 29 (.bool false) ?_
    refine rp 30 (.bool false) ?_
    refine rp 31 (.int .i64 er) ?_
    refine rv 32 (.bool true) (fun _ => ol_conv (v := .bool (!((er : Int) == (0 : Int)))) (by kernel_rfl) (congrArg Value.bool (by rw [hq14]; rfl))) ?_
    refine rp 33 (.bool true) ?_
    refine rv 34 (.agg ((AV D).toArray)) (fun _ => ol_row 26 _ _ _ _ _ _ rfl (by kernel_rfl) hr9 Try.underlying26 rfl (infoA hok)) ?_
    refine rv 35 (.agg (AV zA).toArray) (fun _ => ol_build 26 _ rfl [] (by kernel_rfl) _ built_Az) ?_
    refine rv 36 (.bool false) (fun _ => ol_conv (ol_neqA rfl (by kernel_rfl) (by kernel_rfl) hok zA_ok) (congrArg (fun q => Value.bool (!q)) (eqP_iff.2 hN2))) ?_
    refine rp 37 (.bool false) ?_
    refine rp 38 (.bool false) ?_
    refine rw_nil ?_
    refine nw_then ?_
    refine cw_cond_f (fun _ => by kernel_rfl) ?_
    refine cw_skip ?_
    refine nw_then ?_
    refine cw_seq ?_
    obtain ⟨gb, off, rfl, _, _, hcs⟩ := ag_head h h0
    have hc0 := hcs 0 h0
    refine cw_region ?_
    refine rp 39 (.int .i64 0) ?_
    refine rp 40 (.bool true) ?_
    refine rp 41 (.slice (some ⟨gb, off, none⟩) n c) ?_
    refine rp 42 (.int .i64 n) ?_
    refine rv 43 (.bool true) (fun _ => ol_conv (v := .bool (decide ((n : Int) ≤ (8 : Int)))) (by kernel_rfl) (congrArg Value.bool (decide_eq_true (by omega)))) ?_
    refine rp 44 (.bool true) ?_
    refine rp 45 (.slice (some ⟨gb, off, none⟩) n c) ?_
    refine rp 46 (.int .i64 n) ?_
    refine rv 47 (.bool false) (fun _ => ol_conv (v := .bool ((n : Int) == (0 : Int))) (by kernel_rfl) (congrArg Value.bool (beq_eq_false_iff_ne.2 (by omega)))) ?_
    refine rp 48 (.bool false) ?_
    refine rp 49 (.slice (some ⟨gb, off, none⟩) n c) ?_
    refine rv 50 (.pointer (some ⟨gb, off + 0 * 1, none⟩)) (fun _ => ol_index 29 _ _ gb off 0 n c 1 5 rfl (by kernel_rfl) (by kernel_rfl) h0 Try.underlying29 (by kernel_rfl)) ?_
    refine rv 51 (.int .u8 (b.getD 0 0)) (fun _ => ol_cell 5 _ ⟨gb, off + 0 * 1, none⟩ _ _ rfl (by kernel_rfl) hc0 Try.underlying5 rfl) ?_
    refine rv 52 (.bool true) (fun _ => ol_conv (v := .bool (!((b.getD 0 0 : Int) == (0 : Int)))) (by kernel_rfl) (congrArg Value.bool (by rw [Bool.not_eq_true', beq_eq_false_iff_ne]; exact hz))) ?_
    refine rp 53 (.bool true) ?_
    refine rp 54 (.bool true) ?_
    refine rp 55 (.bool true) ?_
    refine rp 56 (.bool true) ?_
    refine rp 57 (.int .i64 0) ?_
    refine rp 58 (.bool false) ?_
    refine rp 59 (.bool false) ?_
    refine rp 60 (.int .u64 ((Wo.vl b : Nat) : Int)) ?_
    refine rw_call 61 19 #[.int .u64 ((Wo.vl b : Nat) : Int)] (fun _ => by kernel_rfl) (fun _ => by kernel_rfl) (R := RSl w12 (be (Wo.vl b))) (wvalue (Wo.vl b) hv1 w12) ?_
    rintro _ w34 ⟨⟨a31, n32, c33, rfl, ha35⟩, hb36⟩
    replace hB := hB.go hb36
    replace h := h.go hb36
    replace hr9 := hr9.go hb36
    refine rp 62 (.slice (some ⟨gb, off, none⟩) n c) ?_
    refine rw_call 63 10 #[.slice a31 n32 c33, .slice (some ⟨gb, off, none⟩) n c] (fun _ => by kernel_rfl) (fun _ => by kernel_rfl) (R := RVl w34 (.bool true)) (wsame_e ha35 h hv2) ?_
    rintro _ w37 ⟨rfl, hb38⟩
    replace hB := hB.go hb38
    replace h := h.go hb38
    replace hr9 := hr9.go hb38
    replace ha35 := ha35.go hb38
    refine rp 64 (.bool true) ?_
    refine rp 65 (.bool true) ?_
    refine rp 2 (.bool true) ?_
    refine rw_nil ?_
    refine nw_then ?_
    refine cw_ret ?_
    refine nw_ret_body (.bool true) (fun _ => by kernel_rfl) ?_
    exact ⟨rfl, hB⟩
theorem aconly_any (x : Option Addr) (n c : Nat) (b : List Int) (hn : n ≤ 140737488351232) (w : World) (h : Ag w x n c b) : Calls Try.prog 7 #[.slice x n c] w (Law12 w) := by
  by_cases h8 : 8 < n
  · exact only_long x n c b hn w h h8
  · by_cases h0 : n = 0
    · exact only_none x n c b hn w h h0
    · by_cases hz : b.getD 0 0 = 0
      · exact only_zero x n c b hn w h (by omega) (by omega) hz
      · exact only_word x n c b hn w h (by omega) (by omega) hz
end Go.Proofs.Ytmaajddofmahpaa

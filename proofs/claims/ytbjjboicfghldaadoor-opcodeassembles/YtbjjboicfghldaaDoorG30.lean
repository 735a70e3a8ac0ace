/- What same, places and alive of the statements' package answer. -/
import Derived.Test.YtbjjboicfghldaaDoorG29
namespace Go.Proofs.YtbjjboicfghldaaDoor
open Go.RowKit
open Wo
set_option linter.unusedVariables false
set_option maxRecDepth 100000
theorem wsame {a a2 : Option Addr} {n c n2 c2 : Nat} {b : List Int} (w : World) (h : Ag w a n c b) (h2 : Ag w a2 n2 c2 b) : Calls Tryd.prog 17 #[.slice a n c, .slice a2 n2 c2] w fun e w' => ∃ v, e = .returned v ∧ RVl w (.bool true) v w' := by
  have hB : Bl w w := Bl.refl w
  refine cw_enter Tryd.func17 rfl 10 rfl ?_
  show CW _ _ _ _ _ _ _ [(0, .slice a n c), (1, .slice a2 n2 c2)] _
  refine cw_seq ?_
  refine cw_region ?_
  refine rw_p 4 (.bool false) (fun _ => by kernel_rfl) (fun _ => by kernel_rfl) ?_
  refine rw_nil ?_
  refine nw_then ?_
  refine cw_seq ?_
  refine cw_region ?_
  refine rw_p 5 (.slice a n c) (fun _ => by kernel_rfl) (fun _ => by kernel_rfl) ?_
  have by1 : Byt (b) := h.b
  refine rw_p 6 (.string (strOfNums b)) (fun _ => by kernel_rfl) (fun _ => h.run_str _ _ _ rfl (by kernel_rfl)) ?_
  refine rw_p 7 (.slice a2 n2 c2) (fun _ => by kernel_rfl) (fun _ => by kernel_rfl) ?_
  refine rw_p 8 (.string (strOfNums b)) (fun _ => by kernel_rfl) (fun _ => h2.run_str _ _ _ rfl (by kernel_rfl)) ?_
  refine rw_p 9 (.bool true) (fun _ => by kernel_rfl) (fun _ => ol_conv (ol_eqS 9 _ _ _ b b rfl (by kernel_rfl) (by kernel_rfl) by1 by1) (congrArg Value.bool (decide_eq_true rfl))) ?_
  refine rw_p 4 (.bool true) (fun _ => by kernel_rfl) (fun _ => by kernel_rfl) ?_
  refine rw_nil ?_
  refine nw_then ?_
  refine cw_ret ?_
  refine nw_ret_body (.bool true) (fun _ => by kernel_rfl) ?_
  refine ⟨_, rfl, ?_, hB⟩
  rfl
theorem wplaces {w : World} {v v2 : Value} {ns : List Nat} (h : IsL w v ns) (h2 : IsL w v2 ns) (hn : ns.length ≤ 9223372036854775000) : Calls Tryd.prog 13 #[v, v2] w fun e w' => ∃ u, e = .returned u ∧ RVl w (.bool true) u w' := by
  obtain ⟨a, c, rfl, h⟩ := h
  obtain ⟨a2, c2, rfl, h2⟩ := h2
  obtain ⟨n, hn9⟩ : ∃ n, ns.length = n := ⟨_, rfl⟩
  rw [hn9] at h h2 hn ⊢
  have hB : Bl w w := Bl.refl w
  refine cw_enter Tryd.func13 rfl 26 rfl ?_
  show CW _ _ _ _ _ _ _ [(0, .slice a n c), (1, .slice a2 n c2)] _
  refine cw_seq ?_
  refine cw_region ?_
  refine rw_p 4 (.bool false) (fun _ => by kernel_rfl) (fun _ => by kernel_rfl) ?_
  refine rw_nil ?_
  refine nw_then ?_
  refine cw_seq ?_
  refine cw_seq ?_
  refine cw_region ?_
  refine rw_p 6 (.slice a n c) (fun _ => by kernel_rfl) (fun _ => by kernel_rfl) ?_
  refine rw_p 7 (.int .i64 ((n : Nat) : Int)) (fun _ => by kernel_rfl) (fun _ => by kernel_rfl) ?_
  refine rw_p 8 (.slice a2 n c2) (fun _ => by kernel_rfl) (fun _ => by kernel_rfl) ?_
  refine rw_p 9 (.int .i64 ((n : Nat) : Int)) (fun _ => by kernel_rfl) (fun _ => by kernel_rfl) ?_
  refine rw_p 10 (.bool false) (fun _ => by kernel_rfl) (fun _ => ol_conv (v := .bool (!(((n : Nat) : Int) == ((n : Nat) : Int)))) (by kernel_rfl) (congrArg Value.bool (by simp))) ?_
  refine rw_nil ?_
  refine nw_then ?_
  refine cw_cond_f (fun _ => by kernel_rfl) ?_
  refine cw_skip ?_
  refine nw_then ?_
  refine cw_seq ?_
  refine cw_seq ?_
  refine cw_region ?_
  refine rw_p 11 (.slice a n c) (fun _ => by kernel_rfl) (fun _ => by kernel_rfl) ?_
  refine rw_p 12 (.int .i64 ((n : Nat) : Int)) (fun _ => by kernel_rfl) (fun _ => by kernel_rfl) ?_
  refine rw_p 13 (.int .i64 0) (fun _ => by kernel_rfl) (fun _ => by kernel_rfl) ?_
  refine rw_nil ?_
  refine nw_then ?_
  refine cw_block ?_
  refine cw_loop (X := Nat) (fun q => [(0, .slice a n c), (1, .slice a2 n c2), (12, .int .i64 ((n : Nat) : Int)), (13, .int .i64 ((q : Nat) : Int))]) (fun q v => q ≤ n ∧ Bl w v) (fun q => n - q) 0 (by exact ⟨fun _ => by kernel_rfl, ⟨fun _ => by kernel_rfl, ⟨fun _ => by kernel_rfl, ⟨fun _ => by kernel_rfl, trivial⟩⟩⟩⟩) ⟨by omega, hB⟩ ?_
  rintro i wl ⟨hi, hB⟩
  by_cases hlt : i < n
  · skip
    obtain ⟨g1, o1, rfl, hc1⟩ := h (by omega)
    obtain ⟨g2, o2, rfl, hc2⟩ := h2 (by omega)
    replace hc1 := cell_go (hc1 i hlt) hB
    replace hc2 := cell_go (hc2 i hlt) hB
    refine cw_seq ?_
    refine cw_region ?_
    refine rw_p 14 (.bool true) (fun _ => by kernel_rfl) (fun _ => ol_conv (v := .bool (decide (((i : Nat) : Int) < ((n : Nat) : Int)))) (by kernel_rfl) (congrArg Value.bool (decide_eq_true (by omega)))) ?_
    refine rw_nil ?_
    refine nw_then ?_
    refine cw_seq ?_
    refine cw_cond_t (fun _ => by kernel_rfl) ?_
    refine cw_skip ?_
    refine nw_then ?_
    refine cw_seq ?_
    refine cw_block ?_
    refine cw_seq ?_
    refine cw_region ?_
    refine rw_p 15 (.int .i64 ((i : Nat) : Int)) (fun _ => by kernel_rfl) (fun _ => by kernel_rfl) ?_
    refine rw_p 5 (.int .i64 ((i : Nat) : Int)) (fun _ => by kernel_rfl) (fun _ => by kernel_rfl) ?_
    refine rw_nil ?_
    refine nw_then ?_
    refine cw_seq ?_
    refine cw_draw (fun v => v.cell? ⟨g1, o1 + i * 1, none⟩ = some (.int .i64 ((ns.getD i 0 : Nat) : Int)) ∧ v.cell? ⟨g2, o2 + i * 1, none⟩ = some (.int .i64 ((ns.getD i 0 : Nat) : Int))) (by kernel_rfl) (⟨hc1, hc2⟩) ?_
    replace hB := hB.go (Below.refl _ _).drew
    refine dw_take 0 16 (.slice (some ⟨g1, o1, none⟩) n c) rfl (by kernel_rfl) (fun _ _ _ h => h) (fun _ => by kernel_rfl) (fun v hv _ => by kernel_rfl) ⟨hc1, hc2⟩ ?_
    refine dw_take 1 17 (.int .i64 ((i : Nat) : Int)) rfl (by kernel_rfl) (fun _ _ _ h => h) (fun _ => by kernel_rfl) (fun v hv _ => by kernel_rfl) ⟨hc1, hc2⟩ ?_
    refine dw_take 2 18 (.pointer (some ⟨g1, o1 + i * 1, none⟩)) rfl (by kernel_rfl) (fun _ _ _ h => h) (fun _ => by kernel_rfl) (fun v hv _ => ol_index 33 _ _ g1 o1 i n c 1 3 rfl (by kernel_rfl) (by kernel_rfl) (by omega) Tryd.underlying33 (by kernel_rfl)) ⟨hc1, hc2⟩ ?_
    refine dw_take 3 19 (.int .i64 ((ns.getD i 0 : Nat) : Int)) rfl (by kernel_rfl) (fun _ _ _ h => h) (fun _ => by kernel_rfl) (fun v hv _ => ol_cell 3 _ ⟨g1, o1 + i * 1, none⟩ _ _ rfl (by kernel_rfl) hv.1 Tryd.underlying3 rfl) ⟨hc1, hc2⟩ ?_
    refine dw_take 4 20 (.slice (some ⟨g2, o2, none⟩) n c2) rfl (by kernel_rfl) (fun _ _ _ h => h) (fun _ => by kernel_rfl) (fun v hv _ => by kernel_rfl) ⟨hc1, hc2⟩ ?_
    refine dw_take 5 21 (.int .i64 ((i : Nat) : Int)) rfl (by kernel_rfl) (fun _ _ _ h => h) (fun _ => by kernel_rfl) (fun v hv _ => by kernel_rfl) ⟨hc1, hc2⟩ ?_
    refine dw_take 6 22 (.pointer (some ⟨g2, o2 + i * 1, none⟩)) rfl (by kernel_rfl) (fun _ _ _ h => h) (fun _ => by kernel_rfl) (fun v hv _ => ol_index 33 _ _ g2 o2 i n c2 1 3 rfl (by kernel_rfl) (by kernel_rfl) (by omega) Tryd.underlying33 (by kernel_rfl)) ⟨hc1, hc2⟩ ?_
    refine dw_take 7 23 (.int .i64 ((ns.getD i 0 : Nat) : Int)) rfl (by kernel_rfl) (fun _ _ _ h => h) (fun _ => by kernel_rfl) (fun v hv _ => ol_cell 3 _ ⟨g2, o2 + i * 1, none⟩ _ _ rfl (by kernel_rfl) hv.2 Tryd.underlying3 rfl) ⟨hc1, hc2⟩ ?_
    refine dw_take 8 24 (.bool false) rfl (by kernel_rfl) (fun _ _ _ h => h) (fun _ => by kernel_rfl) (fun v hv => (fun _ => ol_conv (v := .bool (!(((ns.getD i 0 : Nat) : Int) == ((ns.getD i 0 : Nat) : Int)))) (by kernel_rfl) (congrArg Value.bool (by simp)))) ⟨hc1, hc2⟩ ?_
    refine dw_done (by kernel_rfl) ?_
    refine nw_then ?_
    refine cw_cond_f (fun _ => by kernel_rfl) ?_
    refine cw_skip ?_
    refine nw_block ?_
    refine nw_then ?_
    refine cw_region ?_
    refine rw_p 25 (.int .i64 ((i + 1 : Nat) : Int)) (fun _ => by kernel_rfl) (fun _ => ol_conv (v := .int .i64 (IntKind.i64.wrap (((i : Nat) : Int) + (1 : Int)))) (by kernel_rfl) (congrArg (Value.int .i64) (show IntKind.i64.wrap (((i : Nat) : Int) + (1 : Int)) = ((i + 1 : Nat) : Int) from (wrap64 (by omega) (by omega)).trans (by omega)))) ?_
    refine rw_p 13 (.int .i64 ((i + 1 : Nat) : Int)) (fun _ => by kernel_rfl) (fun _ => by kernel_rfl) ?_
    refine rw_nil ?_
    refine nw_round (X := Nat) (E := fun q => [(0, .slice (some ⟨g1, o1, none⟩) n c), (1, .slice (some ⟨g2, o2, none⟩) n c2), (12, .int .i64 ((n : Nat) : Int)), (13, .int .i64 ((q : Nat) : Int))]) (R := fun q v => q ≤ n ∧ Bl w v) (μ := fun q => n - q) (x := i) (i + 1) (by exact ⟨fun _ => by kernel_rfl, ⟨fun _ => by kernel_rfl, ⟨fun _ => by kernel_rfl, ⟨fun _ => by kernel_rfl, trivial⟩⟩⟩⟩) ⟨by omega, hB⟩ (by show n - (i + 1) < n - i; omega)
  · skip
    refine cw_seq ?_
    refine cw_region ?_
    refine rw_p 14 (.bool false) (fun _ => by kernel_rfl) (fun _ => ol_conv (v := .bool (decide (((i : Nat) : Int) < ((n : Nat) : Int)))) (by kernel_rfl) (congrArg Value.bool (decide_eq_false (by omega)))) ?_
    refine rw_nil ?_
    refine nw_then ?_
    refine cw_seq ?_
    refine cw_cond_f (fun _ => by kernel_rfl) ?_
    refine cw_exit ?_
    refine nw_exit_then ?_
    refine nw_exit_then ?_
    refine nw_exit_here ?_
    refine nw_then ?_
    refine cw_seq ?_
    refine cw_region ?_
    refine rw_p 4 (.bool true) (fun _ => by kernel_rfl) (fun _ => by kernel_rfl) ?_
    refine rw_nil ?_
    refine nw_then ?_
    refine cw_ret ?_
    refine nw_ret_body (.bool true) (fun _ => by kernel_rfl) ?_
    refine ⟨_, rfl, ?_, hB⟩
    rfl
set_option maxHeartbeats 2000000 in
theorem walive (w : World) (ht : Tb w) : Calls Tryd.prog 11 #[] w fun e w' => ∃ v, e = .returned v ∧ RVl w (.bool true) v w' := by
  have ht0 := ht
  have hB : Bl w w := Bl.refl w
  refine cw_enter Tryd.func11 rfl 65 rfl ?_
  show CW _ _ _ _ _ _ _ [] _
  refine cw_seq ?_
  refine cw_region ?_
  refine rw_p 0 (.bool false) (fun _ => by kernel_rfl) (fun _ => by kernel_rfl) ?_
  refine rw_nil ?_
  refine nw_then ?_
  refine cw_seq ?_
  refine cw_region ?_
  refine rw_call 9 9 #[.int .u8 112] (fun _ => by kernel_rfl) (fun _ => by kernel_rfl) (R := RVl w (.tuple #[.agg (NfV oCall), .bool true])) (wof_yes of_call ⟨by omega, by omega⟩ w ht) ?_
  rintro _ w1 ⟨rfl, hb2⟩
  replace hB := hB.go hb2
  replace ht := ht.go hb2
  refine rw_p 8 (.tuple #[.agg (NfV oCall), .bool true]) (fun _ => by kernel_rfl) (fun _ => by kernel_rfl) ?_
  refine rw_p 10 (.agg (NfV oCall)) (fun _ => by kernel_rfl) (fun _ => by kernel_rfl) ?_
  refine rw_p 11 (.bool true) (fun _ => by kernel_rfl) (fun _ => by kernel_rfl) ?_
  refine rw_new 1 (#[.string (strOfNums []), .int .i64 0, .int .i64 0, .int .i64 0, .int .u64 0]) 24 (fun _ => by kernel_rfl) (fun _ => by kernel_rfl) ?_
  intro w3 g4 hn5
  have hzg4 : w.heap.size ≤ g4 := by have := hB.size; have := hn5.hg; omega
  have hr6 : Rw g4 w3 (#[.string (strOfNums []), .int .i64 0, .int .i64 0, .int .i64 0, .int .u64 0]) 24 := hn5.row
  refine rw_put g4 (NfV oCall) (fun _ => by kernel_rfl) (fun _ => ol_store 24 _ _ _ _ _ 24 rfl (by kernel_rfl) (by kernel_rfl) hr6 (by kernel_rfl) rfl (by kernel_rfl)) ?_
  intro w7 hp8
  have hbg4 : Below w1.heap.size w1 w7 := hp8.below hn5.below (Nat.le_of_eq hn5.hg.symm) (by have := hn5.size; have := hn5.hg; omega)
  replace hB := hB.go hbg4
  replace ht := ht.go hbg4
  have hr9 : Rw g4 w7 (NfV oCall) 24 := hr6.put hp8
  refine rw_p 2 (.bool true) (fun _ => by kernel_rfl) (fun _ => by kernel_rfl) ?_
  refine rw_nil ?_
  refine nw_then ?_
  refine cw_seq ?_
  refine cw_region ?_
  refine rw_call 13 15 #[.string (strOfNums ([112, 117, 115, 104, 32, 50, 53, 54, 32, 100, 117, 112, 32, 48]))] (fun _ => by kernel_rfl) (fun _ => by kernel_rfl) (R := RAs w7 ([33, 1, 0, 49, 0], 0, 0)) (by have := wasm (l := tAl) (byt_lit (by decide)) (by decide) w7 ht; rw [as_alive] at this; exact this) ?_
  rintro _ w13 ⟨x10, n11, c12, rfl, ha14, hb15⟩
  replace ha14 : Ag w13 x10 n11 c12 ([33, 1, 0, 49, 0]) := ha14
  replace hB := hB.go hb15
  replace ht := ht.go hb15
  replace hr9 := hr9.go hb15
  have hlha14 : List.length ([33, 1, 0, 49, 0]) = n11 := ha14.l
  refine rw_p 12 (.tuple #[.slice x10 n11 c12, .int .i64 ((0 : Nat) : Int), .int .i64 0]) (fun _ => by kernel_rfl) (fun _ => by kernel_rfl) ?_
  refine rw_p 14 (.slice x10 n11 c12) (fun _ => by kernel_rfl) (fun _ => by kernel_rfl) ?_
  refine rw_p 15 (.int .i64 ((0 : Nat) : Int)) (fun _ => by kernel_rfl) (fun _ => by kernel_rfl) ?_
  refine rw_p 16 (.int .i64 0) (fun _ => by kernel_rfl) (fun _ => by kernel_rfl) ?_
  refine rw_p 3 (.slice x10 n11 c12) (fun _ => by kernel_rfl) (fun _ => by kernel_rfl) ?_
  refine rw_p 4 (.int .i64 ((0 : Nat) : Int)) (fun _ => by kernel_rfl) (fun _ => by kernel_rfl) ?_
  refine rw_p 5 (.int .i64 0) (fun _ => by kernel_rfl) (fun _ => by kernel_rfl) ?_
  refine rw_nil ?_
  refine nw_then ?_
  refine cw_seq ?_
  refine cw_region ?_
  refine rw_newS 18 #[.int .u8 66, .int .u8 255] 5 2 (fun _ => by kernel_rfl) (fun _ => by kernel_rfl) ?_
  intro w16 g17 hn18
  replace hB := hB.go hn18.below
  replace ht := ht.go hn18.below
  replace hr9 := hr9.go hn18.below
  replace ha14 := ha14.go hn18.below
  have ha19 : Ag w16 (some ⟨g17, 0, none⟩) 2 2 [66, 255] := row_ag (show Row g17 w16 [66, 255] from hn18.row) rfl (fun x hx => by simp at hx; omega) (by omega)
  have ho20 : OwnB w16 w13.heap.size (.slice (some ⟨g17, 0, none⟩) 2 2) [66, 255] := own_lit hn18 rfl
  refine rw_call 19 18 #[.slice (some ⟨g17, 0, none⟩) 2 2] (fun _ => by kernel_rfl) (fun _ => by kernel_rfl) (R := RVl w16 (.tuple #[.string (strOfNums tPr), .int .i64 0])) (by have := wprt w16 ha19 ht; rw [pr_alive] at this; exact this) ?_
  rintro _ w21 ⟨rfl, hb22⟩
  replace hB := hB.go hb22
  replace ht := ht.go hb22
  replace hr9 := hr9.go hb22
  replace ha14 := ha14.go hb22
  replace ha19 := ha19.go hb22
  replace ho20 := ho20.go hb22
  refine rw_p 17 (.tuple #[.string (strOfNums tPr), .int .i64 0]) (fun _ => by kernel_rfl) (fun _ => by kernel_rfl) ?_
  refine rw_p 20 (.string (strOfNums tPr)) (fun _ => by kernel_rfl) (fun _ => by kernel_rfl) ?_
  refine rw_p 21 (.int .i64 0) (fun _ => by kernel_rfl) (fun _ => by kernel_rfl) ?_
  refine rw_p 6 (.string (strOfNums tPr)) (fun _ => by kernel_rfl) (fun _ => by kernel_rfl) ?_
  refine rw_p 7 (.int .i64 0) (fun _ => by kernel_rfl) (fun _ => by kernel_rfl) ?_
  refine rw_nil ?_
  refine nw_then ?_
  refine cw_seq ?_
  refine cw_region ?_
  refine rw_p 22 (.bool true) (fun _ => by kernel_rfl) (fun _ => by kernel_rfl) ?_
  refine rw_p 23 (.bool true) (fun _ => by kernel_rfl) (fun _ => by kernel_rfl) ?_
  refine rw_p 24 (.pointer (some ⟨g4, 0, none⟩)) (fun _ => by kernel_rfl) (fun _ => by kernel_rfl) ?_
  refine rw_p 25 (.string (strOfNums oCall.wd)) (fun _ => by kernel_rfl) (fun _ => ol_cell 9 _ ⟨g4, 0, none⟩ _ _ rfl (by kernel_rfl) (by rw [cell_of_row _ _ _ _ _ _ hr9]; rfl) Tryd.underlying9 rfl) ?_
  refine rw_p 26 (.bool true) (fun _ => by kernel_rfl) (fun _ => ol_conv (ol_eqS 9 _ _ _ oCall.wd ([99, 97, 108, 108]) rfl (by kernel_rfl) (by kernel_rfl) (byt_lit (by decide)) (byt_lit (by decide))) (congrArg Value.bool (decide_eq_true rfl))) ?_
  refine rw_p 27 (.bool true) (fun _ => by kernel_rfl) (fun _ => by kernel_rfl) ?_
  refine rw_p 28 (.bool true) (fun _ => by kernel_rfl) (fun _ => by kernel_rfl) ?_
  refine rw_p 29 (.pointer (some ⟨g4, 2, none⟩)) (fun _ => by kernel_rfl) (fun _ => by kernel_rfl) ?_
  refine rw_p 30 (.int .i64 ((oCall.tk : Nat) : Int)) (fun _ => by kernel_rfl) (fun _ => ol_cell 3 _ ⟨g4, 2, none⟩ _ _ rfl (by kernel_rfl) (by rw [cell_of_row _ _ _ _ _ _ hr9]; rfl) Tryd.underlying3 rfl) ?_
  refine rw_p 31 (.bool true) (fun _ => by kernel_rfl) (fun _ => ol_conv (v := .bool (((oCall.tk : Nat) : Int) == (4 : Int))) (by kernel_rfl) (congrArg Value.bool (rfl))) ?_
  refine rw_p 32 (.bool true) (fun _ => by kernel_rfl) (fun _ => by kernel_rfl) ?_
  refine rw_p 33 (.bool true) (fun _ => by kernel_rfl) (fun _ => by kernel_rfl) ?_
  refine rw_p 34 (.pointer (some ⟨g4, 4, none⟩)) (fun _ => by kernel_rfl) (fun _ => by kernel_rfl) ?_
  refine rw_p 35 (.int .u64 ((oCall.gs : Nat) : Int)) (fun _ => by kernel_rfl) (fun _ => ol_cell 22 _ ⟨g4, 4, none⟩ _ _ rfl (by kernel_rfl) (by rw [cell_of_row _ _ _ _ _ _ hr9]; rfl) Tryd.underlying22 rfl) ?_
  refine rw_p 36 (.bool true) (fun _ => by kernel_rfl) (fun _ => ol_conv (v := .bool (((oCall.gs : Nat) : Int) == (40 : Int))) (by kernel_rfl) (congrArg Value.bool (rfl))) ?_
  refine rw_p 37 (.bool true) (fun _ => by kernel_rfl) (fun _ => by kernel_rfl) ?_
  refine rw_p 38 (.bool true) (fun _ => by kernel_rfl) (fun _ => by kernel_rfl) ?_
  refine rw_p 39 (.slice x10 n11 c12) (fun _ => by kernel_rfl) (fun _ => by kernel_rfl) ?_
  refine rw_newS 40 #[.int .u8 33, .int .u8 1, .int .u8 0, .int .u8 49, .int .u8 0] 5 5 (fun _ => by kernel_rfl) (fun _ => by kernel_rfl) ?_
  intro w23 g24 hn25
  replace hB := hB.go hn25.below
  replace ht := ht.go hn25.below
  replace hr9 := hr9.go hn25.below
  replace ha14 := ha14.go hn25.below
  replace ha19 := ha19.go hn25.below
  replace ho20 := ho20.go hn25.below
  have ha26 : Ag w23 (some ⟨g24, 0, none⟩) 5 5 [33, 1, 0, 49, 0] := row_ag (show Row g24 w23 [33, 1, 0, 49, 0] from hn25.row) rfl (fun x hx => by simp at hx; omega) (by omega)
  have ho27 : OwnB w23 w21.heap.size (.slice (some ⟨g24, 0, none⟩) 5 5) [33, 1, 0, 49, 0] := own_lit hn25 rfl
  refine rw_call 41 17 #[.slice x10 n11 c12, .slice (some ⟨g24, 0, none⟩) 5 5] (fun _ => by kernel_rfl) (fun _ => by kernel_rfl) (R := RVl w23 (.bool true)) (wsame w23 ha14 ha26) ?_
  rintro _ w28 ⟨rfl, hb29⟩
  replace hB := hB.go hb29
  replace ht := ht.go hb29
  replace hr9 := hr9.go hb29
  replace ha14 := ha14.go hb29
  replace ha19 := ha19.go hb29
  replace ho20 := ho20.go hb29
  replace ha26 := ha26.go hb29
  replace ho27 := ho27.go hb29
  refine rw_p 42 (.bool true) (fun _ => by kernel_rfl) (fun _ => by kernel_rfl) ?_
  refine rw_p 43 (.bool true) (fun _ => by kernel_rfl) (fun _ => by kernel_rfl) ?_
  refine rw_p 44 (.int .i64 ((0 : Nat) : Int)) (fun _ => by kernel_rfl) (fun _ => by kernel_rfl) ?_
  refine rw_p 45 (.bool true) (fun _ => by kernel_rfl) (fun _ => ol_conv (v := .bool (((0 : Nat) : Int) == (0 : Int))) (by kernel_rfl) (congrArg Value.bool (rfl))) ?_
  refine rw_p 46 (.bool true) (fun _ => by kernel_rfl) (fun _ => by kernel_rfl) ?_
  refine rw_p 47 (.bool true) (fun _ => by kernel_rfl) (fun _ => by kernel_rfl) ?_
  refine rw_p 48 (.int .i64 0) (fun _ => by kernel_rfl) (fun _ => by kernel_rfl) ?_
  refine rw_p 49 (.bool true) (fun _ => by kernel_rfl) (fun _ => by kernel_rfl) ?_
  refine rw_p 50 (.bool true) (fun _ => by kernel_rfl) (fun _ => by kernel_rfl) ?_
  refine rw_p 51 (.bool true) (fun _ => by kernel_rfl) (fun _ => by kernel_rfl) ?_
  refine rw_p 52 (.string (strOfNums tPr)) (fun _ => by kernel_rfl) (fun _ => by kernel_rfl) ?_
  refine rw_p 53 (.bool true) (fun _ => by kernel_rfl) (fun _ => ol_conv (ol_eqS 9 _ _ _ tPr ([109, 97, 114, 107, 32, 98, 121, 116, 101, 32, 50, 53, 53]) rfl (by kernel_rfl) (by kernel_rfl) (byt_lit (by decide)) (byt_lit (by decide))) (congrArg Value.bool (decide_eq_true rfl))) ?_
  refine rw_p 54 (.bool true) (fun _ => by kernel_rfl) (fun _ => by kernel_rfl) ?_
  refine rw_p 55 (.bool true) (fun _ => by kernel_rfl) (fun _ => by kernel_rfl) ?_
  refine rw_p 56 (.int .i64 0) (fun _ => by kernel_rfl) (fun _ => by kernel_rfl) ?_
  refine rw_p 57 (.bool true) (fun _ => by kernel_rfl) (fun _ => by kernel_rfl) ?_
  refine rw_p 58 (.bool true) (fun _ => by kernel_rfl) (fun _ => by kernel_rfl) ?_
  refine rw_p 59 (.bool true) (fun _ => by kernel_rfl) (fun _ => by kernel_rfl) ?_
  refine rw_newS 60 #[.int .u8 66] 5 1 (fun _ => by kernel_rfl) (fun _ => by kernel_rfl) ?_
  intro w30 g31 hn32
  replace hB := hB.go hn32.below
  replace ht := ht.go hn32.below
  replace hr9 := hr9.go hn32.below
  replace ha14 := ha14.go hn32.below
  replace ha19 := ha19.go hn32.below
  replace ho20 := ho20.go hn32.below
  replace ha26 := ha26.go hn32.below
  replace ho27 := ho27.go hn32.below
  have ha33 : Ag w30 (some ⟨g31, 0, none⟩) 1 1 [66] := row_ag (show Row g31 w30 [66] from hn32.row) rfl (fun x hx => by simp at hx; omega) (by omega)
  have ho34 : OwnB w30 w28.heap.size (.slice (some ⟨g31, 0, none⟩) 1 1) [66] := own_lit hn32 rfl
  refine rw_call 61 12 #[.slice (some ⟨g31, 0, none⟩) 1 1] (fun _ => by kernel_rfl) (fun _ => by kernel_rfl) (R := RIl w30 ([0])) (by have := wmarks w30 ha33 ht (by omega); rw [mk_alive] at this; exact this) ?_
  rintro u35 w36 ⟨ho37, hb38⟩
  replace hB := hB.go hb38
  replace ht := ht.go hb38
  replace hr9 := hr9.go hb38
  replace ha14 := ha14.go hb38
  replace ha19 := ha19.go hb38
  replace ho20 := ho20.go hb38
  replace ha26 := ha26.go hb38
  replace ho27 := ho27.go hb38
  replace ha33 := ha33.go hb38
  replace ho34 := ho34.go hb38
  have hiho37 : IsL w36 u35 ([0]) := ho37.isl
  refine rw_newS 62 #[.int .i64 0] 3 1 (fun _ => by kernel_rfl) (fun _ => by kernel_rfl) ?_
  intro w39 g40 hn41
  replace hB := hB.go hn41.below
  replace ht := ht.go hn41.below
  replace hr9 := hr9.go hn41.below
  replace ha14 := ha14.go hn41.below
  replace ha19 := ha19.go hn41.below
  replace ho20 := ho20.go hn41.below
  replace ha26 := ha26.go hn41.below
  replace ho27 := ho27.go hn41.below
  replace ha33 := ha33.go hn41.below
  replace ho34 := ho34.go hn41.below
  replace hiho37 := hiho37.go hn41.below
  have hi42 : IsL w39 (.slice (some ⟨g40, 0, none⟩) 1 1) [0] := isl_lit (p := 0) hn41
  refine rw_call 63 13 #[u35, .slice (some ⟨g40, 0, none⟩) 1 1] (fun _ => by kernel_rfl) (fun _ => by kernel_rfl) (R := RVl w39 (.bool true)) (wplaces hiho37 hi42 (by decide)) ?_
  rintro _ w43 ⟨rfl, hb44⟩
  replace hB := hB.go hb44
  replace ht := ht.go hb44
  replace hr9 := hr9.go hb44
  replace ha14 := ha14.go hb44
  replace ha19 := ha19.go hb44
  replace ho20 := ho20.go hb44
  replace ha26 := ha26.go hb44
  replace ho27 := ho27.go hb44
  replace ha33 := ha33.go hb44
  replace ho34 := ho34.go hb44
  replace hiho37 := hiho37.go hb44
  replace hi42 := hi42.go hb44
  refine rw_p 64 (.bool true) (fun _ => by kernel_rfl) (fun _ => by kernel_rfl) ?_
  refine rw_p 0 (.bool true) (fun _ => by kernel_rfl) (fun _ => by kernel_rfl) ?_
  refine rw_nil ?_
  refine nw_then ?_
  refine cw_ret ?_
  refine nw_ret_body (.bool true) (fun _ => by kernel_rfl) ?_
  refine ⟨_, rfl, ?_, hB⟩
  rfl
end Go.Proofs.YtbjjboicfghldaaDoor

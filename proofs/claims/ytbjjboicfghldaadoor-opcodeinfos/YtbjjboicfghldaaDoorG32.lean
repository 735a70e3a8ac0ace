/- The statement OpcodeInfos, as a call. -/
import Derived.Test.YtbjjboicfghldaaDoorG31
namespace Go.Proofs.YtbjjboicfghldaaDoor
open Go.RowKit
open Wo
set_option linter.unusedVariables false
set_option maxRecDepth 100000
set_option maxHeartbeats 2000000 in
theorem infos_no {x : Int} (w : World) (ht : Tb w) (hx : 0 ≤ x ∧ x < 256) (hof : ofP x = none) : Calls Tryd.prog 3 #[.int .u8 x] w (Law14 w) := by
  have ht0 := ht
  have hB : Bl w w := Bl.refl w
  refine cw_enter Tryd.func3 rfl 58 rfl ?_
  show CW _ _ _ _ _ _ _ [(0, .int .u8 x)] _
  refine cw_seq ?_
  refine cw_region ?_
  refine rw_p 2 (.bool false) (fun _ => by kernel_rfl) (fun _ => by kernel_rfl) ?_
  refine rw_nil ?_
  refine nw_then ?_
  refine cw_seq ?_
  refine cw_region ?_
  refine rw_p 8 (.int .u8 x) (fun _ => by kernel_rfl) (fun _ => by kernel_rfl) ?_
  refine rw_call 9 9 #[.int .u8 x] (fun _ => by kernel_rfl) (fun _ => by kernel_rfl) (R := RVl w (.tuple #[.agg (NfV nf0), .bool false])) (wof_no hof hx w ht) ?_
  rintro _ w1 ⟨rfl, hb2⟩
  replace hB := hB.go hb2
  replace ht := ht.go hb2
  refine rw_p 7 (.tuple #[.agg (NfV nf0), .bool false]) (fun _ => by kernel_rfl) (fun _ => by kernel_rfl) ?_
  refine rw_p 10 (.agg (NfV nf0)) (fun _ => by kernel_rfl) (fun _ => by kernel_rfl) ?_
  refine rw_p 11 (.bool false) (fun _ => by kernel_rfl) (fun _ => by kernel_rfl) ?_
  refine rw_new 3 (#[.string (strOfNums []), .int .i64 0, .int .i64 0, .int .i64 0, .int .u64 0]) 24 (fun _ => by kernel_rfl) (fun _ => by kernel_rfl) ?_
  intro w3 g4 hn5
  have hzg4 : w.heap.size ≤ g4 := by have := hB.size; have := hn5.hg; omega
  have hr6 : Rw g4 w3 (#[.string (strOfNums []), .int .i64 0, .int .i64 0, .int .i64 0, .int .u64 0]) 24 := hn5.row
  refine rw_put g4 (NfV nf0) (fun _ => by kernel_rfl) (fun _ => ol_store 24 _ _ _ _ _ 24 rfl (by kernel_rfl) (by kernel_rfl) hr6 (by kernel_rfl) rfl (by kernel_rfl)) ?_
  intro w7 hp8
  have hbg4 : Below w1.heap.size w1 w7 := hp8.below hn5.below (Nat.le_of_eq hn5.hg.symm) (by have := hn5.size; have := hn5.hg; omega)
  replace hB := hB.go hbg4
  replace ht := ht.go hbg4
  have hr9 : Rw g4 w7 (NfV nf0) 24 := hr6.put hp8
  refine rw_p 4 (.bool false) (fun _ => by kernel_rfl) (fun _ => by kernel_rfl) ?_
  refine rw_nil ?_
  refine nw_then ?_
  refine cw_seq ?_
  refine cw_region ?_
  refine rw_p 13 (.int .u8 x) (fun _ => by kernel_rfl) (fun _ => by kernel_rfl) ?_
  refine rw_call 14 10 #[.int .u8 x] (fun _ => by kernel_rfl) (fun _ => by kernel_rfl) (R := RVl w7 (.tuple #[.agg (NfV nf0), .bool false])) (rof_no hof hx w7) ?_
  rintro _ w10 ⟨rfl, hb11⟩
  replace hB := hB.go hb11
  replace ht := ht.go hb11
  replace hr9 := hr9.go hb11
  refine rw_p 12 (.tuple #[.agg (NfV nf0), .bool false]) (fun _ => by kernel_rfl) (fun _ => by kernel_rfl) ?_
  refine rw_p 15 (.agg (NfV nf0)) (fun _ => by kernel_rfl) (fun _ => by kernel_rfl) ?_
  refine rw_p 16 (.bool false) (fun _ => by kernel_rfl) (fun _ => by kernel_rfl) ?_
  refine rw_new 5 (#[.string (strOfNums []), .int .i64 0, .int .i64 0, .int .i64 0, .int .u64 0]) 27 (fun _ => by kernel_rfl) (fun _ => by kernel_rfl) ?_
  intro w12 g13 hn14
  have hlg4g13 : g4 < g13 := by have := hr9.lt; have := hn14.hg; omega
  have hzg13 : w.heap.size ≤ g13 := by have := hB.size; have := hn14.hg; omega
  have hr15 : Rw g13 w12 (#[.string (strOfNums []), .int .i64 0, .int .i64 0, .int .i64 0, .int .u64 0]) 27 := hn14.row
  refine rw_put g13 (NfV nf0) (fun _ => by kernel_rfl) (fun _ => ol_store 27 _ _ _ _ _ 27 rfl (by kernel_rfl) (by kernel_rfl) hr15 (by kernel_rfl) rfl (by kernel_rfl)) ?_
  intro w16 hp17
  have hbg13 : Below w10.heap.size w10 w16 := hp17.below hn14.below (Nat.le_of_eq hn14.hg.symm) (by have := hn14.size; have := hn14.hg; omega)
  replace hB := hB.go hbg13
  replace ht := ht.go hbg13
  replace hr9 := hr9.go hbg13
  have hr18 : Rw g13 w16 (NfV nf0) 27 := hr15.put hp17
  refine rw_p 6 (.bool false) (fun _ => by kernel_rfl) (fun _ => by kernel_rfl) ?_
  refine rw_nil ?_
  refine nw_then ?_
  refine cw_seq ?_
  refine cw_region ?_
  refine rw_call 17 11 #[] (fun _ => by kernel_rfl) (fun _ => by kernel_rfl) (R := RVl w16 (.bool true)) (walive w16 ht) ?_
  rintro _ w19 ⟨rfl, hb20⟩
  replace hB := hB.go hb20
  replace ht := ht.go hb20
  replace hr9 := hr9.go hb20
  replace hr18 := hr18.go hb20
  refine rw_p 18 (.bool true) (fun _ => by kernel_rfl) (fun _ => by kernel_rfl) ?_
  refine rw_p 19 (.bool false) (fun _ => by kernel_rfl) (fun _ => by kernel_rfl) ?_
  refine rw_p 20 (.bool false) (fun _ => by kernel_rfl) (fun _ => by kernel_rfl) ?_
  refine rw_p 21 (.bool true) (fun _ => by kernel_rfl) (fun _ => by kernel_rfl) ?_
  refine rw_p 22 (.bool true) (fun _ => by kernel_rfl) (fun _ => by kernel_rfl) ?_
  refine rw_p 23 (.bool true) (fun _ => by kernel_rfl) (fun _ => by kernel_rfl) ?_
  refine rw_p 24 (.pointer (some ⟨g4, 0, none⟩)) (fun _ => by kernel_rfl) (fun _ => by kernel_rfl) ?_
  refine rw_p 25 (.string (strOfNums nf0.wd)) (fun _ => by kernel_rfl) (fun _ => ol_cell 9 _ ⟨g4, 0, none⟩ _ _ rfl (by kernel_rfl) (by rw [cell_of_row _ _ _ _ _ _ hr9]; rfl) Tryd.underlying9 rfl) ?_
  refine rw_p 26 (.pointer (some ⟨g13, 0, none⟩)) (fun _ => by kernel_rfl) (fun _ => by kernel_rfl) ?_
  refine rw_p 27 (.string (strOfNums nf0.wd)) (fun _ => by kernel_rfl) (fun _ => ol_cell 9 _ ⟨g13, 0, none⟩ _ _ rfl (by kernel_rfl) (by rw [cell_of_row _ _ _ _ _ _ hr18]; rfl) Tryd.underlying9 rfl) ?_
  refine rw_p 28 (.bool true) (fun _ => by kernel_rfl) (fun _ => ol_conv (ol_eqS 9 _ _ _ nf0.wd nf0.wd rfl (by kernel_rfl) (by kernel_rfl) (byt_lit (by decide)) (byt_lit (by decide))) (congrArg Value.bool (decide_eq_true rfl))) ?_
  refine rw_p 29 (.bool true) (fun _ => by kernel_rfl) (fun _ => by kernel_rfl) ?_
  refine rw_p 30 (.bool true) (fun _ => by kernel_rfl) (fun _ => by kernel_rfl) ?_
  refine rw_p 31 (.pointer (some ⟨g4, 1, none⟩)) (fun _ => by kernel_rfl) (fun _ => by kernel_rfl) ?_
  refine rw_p 32 (.int .i64 ((nf0.bh : Nat) : Int)) (fun _ => by kernel_rfl) (fun _ => ol_cell 3 _ ⟨g4, 1, none⟩ _ _ rfl (by kernel_rfl) (by rw [cell_of_row _ _ _ _ _ _ hr9]; rfl) Tryd.underlying3 rfl) ?_
  refine rw_p 33 (.pointer (some ⟨g13, 1, none⟩)) (fun _ => by kernel_rfl) (fun _ => by kernel_rfl) ?_
  refine rw_p 34 (.int .i64 ((nf0.bh : Nat) : Int)) (fun _ => by kernel_rfl) (fun _ => ol_cell 3 _ ⟨g13, 1, none⟩ _ _ rfl (by kernel_rfl) (by rw [cell_of_row _ _ _ _ _ _ hr18]; rfl) Tryd.underlying3 rfl) ?_
  refine rw_p 35 (.bool true) (fun _ => by kernel_rfl) (fun _ => ol_conv (v := .bool (((nf0.bh : Nat) : Int) == ((nf0.bh : Nat) : Int))) (by kernel_rfl) (congrArg Value.bool (beq_self_eq_true _))) ?_
  refine rw_p 36 (.bool true) (fun _ => by kernel_rfl) (fun _ => by kernel_rfl) ?_
  refine rw_p 37 (.bool true) (fun _ => by kernel_rfl) (fun _ => by kernel_rfl) ?_
  refine rw_p 38 (.pointer (some ⟨g4, 2, none⟩)) (fun _ => by kernel_rfl) (fun _ => by kernel_rfl) ?_
  refine rw_p 39 (.int .i64 ((nf0.tk : Nat) : Int)) (fun _ => by kernel_rfl) (fun _ => ol_cell 3 _ ⟨g4, 2, none⟩ _ _ rfl (by kernel_rfl) (by rw [cell_of_row _ _ _ _ _ _ hr9]; rfl) Tryd.underlying3 rfl) ?_
  refine rw_p 40 (.pointer (some ⟨g13, 2, none⟩)) (fun _ => by kernel_rfl) (fun _ => by kernel_rfl) ?_
  refine rw_p 41 (.int .i64 ((nf0.tk : Nat) : Int)) (fun _ => by kernel_rfl) (fun _ => ol_cell 3 _ ⟨g13, 2, none⟩ _ _ rfl (by kernel_rfl) (by rw [cell_of_row _ _ _ _ _ _ hr18]; rfl) Tryd.underlying3 rfl) ?_
  refine rw_p 42 (.bool true) (fun _ => by kernel_rfl) (fun _ => ol_conv (v := .bool (((nf0.tk : Nat) : Int) == ((nf0.tk : Nat) : Int))) (by kernel_rfl) (congrArg Value.bool (beq_self_eq_true _))) ?_
  refine rw_p 43 (.bool true) (fun _ => by kernel_rfl) (fun _ => by kernel_rfl) ?_
  refine rw_p 44 (.bool true) (fun _ => by kernel_rfl) (fun _ => by kernel_rfl) ?_
  refine rw_p 45 (.pointer (some ⟨g4, 3, none⟩)) (fun _ => by kernel_rfl) (fun _ => by kernel_rfl) ?_
  refine rw_p 46 (.int .i64 ((nf0.gv : Nat) : Int)) (fun _ => by kernel_rfl) (fun _ => ol_cell 3 _ ⟨g4, 3, none⟩ _ _ rfl (by kernel_rfl) (by rw [cell_of_row _ _ _ _ _ _ hr9]; rfl) Tryd.underlying3 rfl) ?_
  refine rw_p 47 (.pointer (some ⟨g13, 3, none⟩)) (fun _ => by kernel_rfl) (fun _ => by kernel_rfl) ?_
  refine rw_p 48 (.int .i64 ((nf0.gv : Nat) : Int)) (fun _ => by kernel_rfl) (fun _ => ol_cell 3 _ ⟨g13, 3, none⟩ _ _ rfl (by kernel_rfl) (by rw [cell_of_row _ _ _ _ _ _ hr18]; rfl) Tryd.underlying3 rfl) ?_
  refine rw_p 49 (.bool true) (fun _ => by kernel_rfl) (fun _ => ol_conv (v := .bool (((nf0.gv : Nat) : Int) == ((nf0.gv : Nat) : Int))) (by kernel_rfl) (congrArg Value.bool (beq_self_eq_true _))) ?_
  refine rw_p 50 (.bool true) (fun _ => by kernel_rfl) (fun _ => by kernel_rfl) ?_
  refine rw_p 51 (.bool true) (fun _ => by kernel_rfl) (fun _ => by kernel_rfl) ?_
  refine rw_p 52 (.pointer (some ⟨g4, 4, none⟩)) (fun _ => by kernel_rfl) (fun _ => by kernel_rfl) ?_
  refine rw_p 53 (.int .u64 ((nf0.gs : Nat) : Int)) (fun _ => by kernel_rfl) (fun _ => ol_cell 22 _ ⟨g4, 4, none⟩ _ _ rfl (by kernel_rfl) (by rw [cell_of_row _ _ _ _ _ _ hr9]; rfl) Tryd.underlying22 rfl) ?_
  refine rw_p 54 (.pointer (some ⟨g13, 4, none⟩)) (fun _ => by kernel_rfl) (fun _ => by kernel_rfl) ?_
  refine rw_p 55 (.int .u64 ((nf0.gs : Nat) : Int)) (fun _ => by kernel_rfl) (fun _ => ol_cell 22 _ ⟨g13, 4, none⟩ _ _ rfl (by kernel_rfl) (by rw [cell_of_row _ _ _ _ _ _ hr18]; rfl) Tryd.underlying22 rfl) ?_
  refine rw_p 56 (.bool true) (fun _ => by kernel_rfl) (fun _ => ol_conv (v := .bool (((nf0.gs : Nat) : Int) == ((nf0.gs : Nat) : Int))) (by kernel_rfl) (congrArg Value.bool (beq_self_eq_true _))) ?_
  refine rw_p 57 (.bool true) (fun _ => by kernel_rfl) (fun _ => by kernel_rfl) ?_
  refine rw_p 2 (.bool true) (fun _ => by kernel_rfl) (fun _ => by kernel_rfl) ?_
  refine rw_nil ?_
  refine nw_then ?_
  refine cw_ret ?_
  refine nw_ret_body (.bool true) (fun _ => by kernel_rfl) ?_
  exact ⟨rfl, hB⟩
set_option maxHeartbeats 2000000 in
theorem infos_some {x : Int} (w : World) (ht : Tb w) (hx : 0 ≤ x ∧ x < 256) {o : Nf} (hof : ofP x = some o) : Calls Tryd.prog 3 #[.int .u8 x] w (Law14 w) := by
  have ht0 := ht
  have hB : Bl w w := Bl.refl w
  refine cw_enter Tryd.func3 rfl 58 rfl ?_
  show CW _ _ _ _ _ _ _ [(0, .int .u8 x)] _
  obtain ⟨-, -, -, -, hbw, -, -⟩ := nf_small hof
  refine cw_seq ?_
  refine cw_region ?_
  refine rw_p 2 (.bool false) (fun _ => by kernel_rfl) (fun _ => by kernel_rfl) ?_
  refine rw_nil ?_
  refine nw_then ?_
  refine cw_seq ?_
  refine cw_region ?_
  refine rw_p 8 (.int .u8 x) (fun _ => by kernel_rfl) (fun _ => by kernel_rfl) ?_
  refine rw_call 9 9 #[.int .u8 x] (fun _ => by kernel_rfl) (fun _ => by kernel_rfl) (R := RVl w (.tuple #[.agg (NfV o), .bool true])) (wof_yes hof hx w ht) ?_
  rintro _ w1 ⟨rfl, hb2⟩
  replace hB := hB.go hb2
  replace ht := ht.go hb2
  refine rw_p 7 (.tuple #[.agg (NfV o), .bool true]) (fun _ => by kernel_rfl) (fun _ => by kernel_rfl) ?_
  refine rw_p 10 (.agg (NfV o)) (fun _ => by kernel_rfl) (fun _ => by kernel_rfl) ?_
  refine rw_p 11 (.bool true) (fun _ => by kernel_rfl) (fun _ => by kernel_rfl) ?_
  refine rw_new 3 (#[.string (strOfNums []), .int .i64 0, .int .i64 0, .int .i64 0, .int .u64 0]) 24 (fun _ => by kernel_rfl) (fun _ => by kernel_rfl) ?_
  intro w3 g4 hn5
  have hzg4 : w.heap.size ≤ g4 := by have := hB.size; have := hn5.hg; omega
  have hr6 : Rw g4 w3 (#[.string (strOfNums []), .int .i64 0, .int .i64 0, .int .i64 0, .int .u64 0]) 24 := hn5.row
  refine rw_put g4 (NfV o) (fun _ => by kernel_rfl) (fun _ => ol_store 24 _ _ _ _ _ 24 rfl (by kernel_rfl) (by kernel_rfl) hr6 (by kernel_rfl) rfl (by kernel_rfl)) ?_
  intro w7 hp8
  have hbg4 : Below w1.heap.size w1 w7 := hp8.below hn5.below (Nat.le_of_eq hn5.hg.symm) (by have := hn5.size; have := hn5.hg; omega)
  replace hB := hB.go hbg4
  replace ht := ht.go hbg4
  have hr9 : Rw g4 w7 (NfV o) 24 := hr6.put hp8
  refine rw_p 4 (.bool true) (fun _ => by kernel_rfl) (fun _ => by kernel_rfl) ?_
  refine rw_nil ?_
  refine nw_then ?_
  refine cw_seq ?_
  refine cw_region ?_
  refine rw_p 13 (.int .u8 x) (fun _ => by kernel_rfl) (fun _ => by kernel_rfl) ?_
  refine rw_call 14 10 #[.int .u8 x] (fun _ => by kernel_rfl) (fun _ => by kernel_rfl) (R := RVl w7 (.tuple #[.agg (NfV o), .bool true])) (rof_yes hof hx w7) ?_
  rintro _ w10 ⟨rfl, hb11⟩
  replace hB := hB.go hb11
  replace ht := ht.go hb11
  replace hr9 := hr9.go hb11
  refine rw_p 12 (.tuple #[.agg (NfV o), .bool true]) (fun _ => by kernel_rfl) (fun _ => by kernel_rfl) ?_
  refine rw_p 15 (.agg (NfV o)) (fun _ => by kernel_rfl) (fun _ => by kernel_rfl) ?_
  refine rw_p 16 (.bool true) (fun _ => by kernel_rfl) (fun _ => by kernel_rfl) ?_
  refine rw_new 5 (#[.string (strOfNums []), .int .i64 0, .int .i64 0, .int .i64 0, .int .u64 0]) 27 (fun _ => by kernel_rfl) (fun _ => by kernel_rfl) ?_
  intro w12 g13 hn14
  have hlg4g13 : g4 < g13 := by have := hr9.lt; have := hn14.hg; omega
  have hzg13 : w.heap.size ≤ g13 := by have := hB.size; have := hn14.hg; omega
  have hr15 : Rw g13 w12 (#[.string (strOfNums []), .int .i64 0, .int .i64 0, .int .i64 0, .int .u64 0]) 27 := hn14.row
  refine rw_put g13 (NfV o) (fun _ => by kernel_rfl) (fun _ => ol_store 27 _ _ _ _ _ 27 rfl (by kernel_rfl) (by kernel_rfl) hr15 (by kernel_rfl) rfl (by kernel_rfl)) ?_
  intro w16 hp17
  have hbg13 : Below w10.heap.size w10 w16 := hp17.below hn14.below (Nat.le_of_eq hn14.hg.symm) (by have := hn14.size; have := hn14.hg; omega)
  replace hB := hB.go hbg13
  replace ht := ht.go hbg13
  replace hr9 := hr9.go hbg13
  have hr18 : Rw g13 w16 (NfV o) 27 := hr15.put hp17
  refine rw_p 6 (.bool true) (fun _ => by kernel_rfl) (fun _ => by kernel_rfl) ?_
  refine rw_nil ?_
  refine nw_then ?_
  refine cw_seq ?_
  refine cw_region ?_
  refine rw_call 17 11 #[] (fun _ => by kernel_rfl) (fun _ => by kernel_rfl) (R := RVl w16 (.bool true)) (walive w16 ht) ?_
  rintro _ w19 ⟨rfl, hb20⟩
  replace hB := hB.go hb20
  replace ht := ht.go hb20
  replace hr9 := hr9.go hb20
  replace hr18 := hr18.go hb20
  refine rw_p 18 (.bool true) (fun _ => by kernel_rfl) (fun _ => by kernel_rfl) ?_
  refine rw_p 19 (.bool true) (fun _ => by kernel_rfl) (fun _ => by kernel_rfl) ?_
  refine rw_p 20 (.bool true) (fun _ => by kernel_rfl) (fun _ => by kernel_rfl) ?_
  refine rw_p 21 (.bool true) (fun _ => by kernel_rfl) (fun _ => by kernel_rfl) ?_
  refine rw_p 22 (.bool true) (fun _ => by kernel_rfl) (fun _ => by kernel_rfl) ?_
  refine rw_p 23 (.bool true) (fun _ => by kernel_rfl) (fun _ => by kernel_rfl) ?_
  refine rw_p 24 (.pointer (some ⟨g4, 0, none⟩)) (fun _ => by kernel_rfl) (fun _ => by kernel_rfl) ?_
  refine rw_p 25 (.string (strOfNums o.wd)) (fun _ => by kernel_rfl) (fun _ => ol_cell 9 _ ⟨g4, 0, none⟩ _ _ rfl (by kernel_rfl) (by rw [cell_of_row _ _ _ _ _ _ hr9]; rfl) Tryd.underlying9 rfl) ?_
  refine rw_p 26 (.pointer (some ⟨g13, 0, none⟩)) (fun _ => by kernel_rfl) (fun _ => by kernel_rfl) ?_
  refine rw_p 27 (.string (strOfNums o.wd)) (fun _ => by kernel_rfl) (fun _ => ol_cell 9 _ ⟨g13, 0, none⟩ _ _ rfl (by kernel_rfl) (by rw [cell_of_row _ _ _ _ _ _ hr18]; rfl) Tryd.underlying9 rfl) ?_
  refine rw_p 28 (.bool true) (fun _ => by kernel_rfl) (fun _ => ol_conv (ol_eqS 9 _ _ _ o.wd o.wd rfl (by kernel_rfl) (by kernel_rfl) hbw hbw) (congrArg Value.bool (decide_eq_true rfl))) ?_
  refine rw_p 29 (.bool true) (fun _ => by kernel_rfl) (fun _ => by kernel_rfl) ?_
  refine rw_p 30 (.bool true) (fun _ => by kernel_rfl) (fun _ => by kernel_rfl) ?_
  refine rw_p 31 (.pointer (some ⟨g4, 1, none⟩)) (fun _ => by kernel_rfl) (fun _ => by kernel_rfl) ?_
  refine rw_p 32 (.int .i64 ((o.bh : Nat) : Int)) (fun _ => by kernel_rfl) (fun _ => ol_cell 3 _ ⟨g4, 1, none⟩ _ _ rfl (by kernel_rfl) (by rw [cell_of_row _ _ _ _ _ _ hr9]; rfl) Tryd.underlying3 rfl) ?_
  refine rw_p 33 (.pointer (some ⟨g13, 1, none⟩)) (fun _ => by kernel_rfl) (fun _ => by kernel_rfl) ?_
  refine rw_p 34 (.int .i64 ((o.bh : Nat) : Int)) (fun _ => by kernel_rfl) (fun _ => ol_cell 3 _ ⟨g13, 1, none⟩ _ _ rfl (by kernel_rfl) (by rw [cell_of_row _ _ _ _ _ _ hr18]; rfl) Tryd.underlying3 rfl) ?_
  refine rw_p 35 (.bool true) (fun _ => by kernel_rfl) (fun _ => ol_conv (v := .bool (((o.bh : Nat) : Int) == ((o.bh : Nat) : Int))) (by kernel_rfl) (congrArg Value.bool (beq_self_eq_true _))) ?_
  refine rw_p 36 (.bool true) (fun _ => by kernel_rfl) (fun _ => by kernel_rfl) ?_
  refine rw_p 37 (.bool true) (fun _ => by kernel_rfl) (fun _ => by kernel_rfl) ?_
  refine rw_p 38 (.pointer (some ⟨g4, 2, none⟩)) (fun _ => by kernel_rfl) (fun _ => by kernel_rfl) ?_
  refine rw_p 39 (.int .i64 ((o.tk : Nat) : Int)) (fun _ => by kernel_rfl) (fun _ => ol_cell 3 _ ⟨g4, 2, none⟩ _ _ rfl (by kernel_rfl) (by rw [cell_of_row _ _ _ _ _ _ hr9]; rfl) Tryd.underlying3 rfl) ?_
  refine rw_p 40 (.pointer (some ⟨g13, 2, none⟩)) (fun _ => by kernel_rfl) (fun _ => by kernel_rfl) ?_
  refine rw_p 41 (.int .i64 ((o.tk : Nat) : Int)) (fun _ => by kernel_rfl) (fun _ => ol_cell 3 _ ⟨g13, 2, none⟩ _ _ rfl (by kernel_rfl) (by rw [cell_of_row _ _ _ _ _ _ hr18]; rfl) Tryd.underlying3 rfl) ?_
  refine rw_p 42 (.bool true) (fun _ => by kernel_rfl) (fun _ => ol_conv (v := .bool (((o.tk : Nat) : Int) == ((o.tk : Nat) : Int))) (by kernel_rfl) (congrArg Value.bool (beq_self_eq_true _))) ?_
  refine rw_p 43 (.bool true) (fun _ => by kernel_rfl) (fun _ => by kernel_rfl) ?_
  refine rw_p 44 (.bool true) (fun _ => by kernel_rfl) (fun _ => by kernel_rfl) ?_
  refine rw_p 45 (.pointer (some ⟨g4, 3, none⟩)) (fun _ => by kernel_rfl) (fun _ => by kernel_rfl) ?_
  refine rw_p 46 (.int .i64 ((o.gv : Nat) : Int)) (fun _ => by kernel_rfl) (fun _ => ol_cell 3 _ ⟨g4, 3, none⟩ _ _ rfl (by kernel_rfl) (by rw [cell_of_row _ _ _ _ _ _ hr9]; rfl) Tryd.underlying3 rfl) ?_
  refine rw_p 47 (.pointer (some ⟨g13, 3, none⟩)) (fun _ => by kernel_rfl) (fun _ => by kernel_rfl) ?_
  refine rw_p 48 (.int .i64 ((o.gv : Nat) : Int)) (fun _ => by kernel_rfl) (fun _ => ol_cell 3 _ ⟨g13, 3, none⟩ _ _ rfl (by kernel_rfl) (by rw [cell_of_row _ _ _ _ _ _ hr18]; rfl) Tryd.underlying3 rfl) ?_
  refine rw_p 49 (.bool true) (fun _ => by kernel_rfl) (fun _ => ol_conv (v := .bool (((o.gv : Nat) : Int) == ((o.gv : Nat) : Int))) (by kernel_rfl) (congrArg Value.bool (beq_self_eq_true _))) ?_
  refine rw_p 50 (.bool true) (fun _ => by kernel_rfl) (fun _ => by kernel_rfl) ?_
  refine rw_p 51 (.bool true) (fun _ => by kernel_rfl) (fun _ => by kernel_rfl) ?_
  refine rw_p 52 (.pointer (some ⟨g4, 4, none⟩)) (fun _ => by kernel_rfl) (fun _ => by kernel_rfl) ?_
  refine rw_p 53 (.int .u64 ((o.gs : Nat) : Int)) (fun _ => by kernel_rfl) (fun _ => ol_cell 22 _ ⟨g4, 4, none⟩ _ _ rfl (by kernel_rfl) (by rw [cell_of_row _ _ _ _ _ _ hr9]; rfl) Tryd.underlying22 rfl) ?_
  refine rw_p 54 (.pointer (some ⟨g13, 4, none⟩)) (fun _ => by kernel_rfl) (fun _ => by kernel_rfl) ?_
  refine rw_p 55 (.int .u64 ((o.gs : Nat) : Int)) (fun _ => by kernel_rfl) (fun _ => ol_cell 22 _ ⟨g13, 4, none⟩ _ _ rfl (by kernel_rfl) (by rw [cell_of_row _ _ _ _ _ _ hr18]; rfl) Tryd.underlying22 rfl) ?_
  refine rw_p 56 (.bool true) (fun _ => by kernel_rfl) (fun _ => ol_conv (v := .bool (((o.gs : Nat) : Int) == ((o.gs : Nat) : Int))) (by kernel_rfl) (congrArg Value.bool (beq_self_eq_true _))) ?_
  refine rw_p 57 (.bool true) (fun _ => by kernel_rfl) (fun _ => by kernel_rfl) ?_
  refine rw_p 2 (.bool true) (fun _ => by kernel_rfl) (fun _ => by kernel_rfl) ?_
  refine rw_nil ?_
  refine nw_then ?_
  refine cw_ret ?_
  refine nw_ret_body (.bool true) (fun _ => by kernel_rfl) ?_
  exact ⟨rfl, hB⟩
theorem infos_any (w : World) (ht : Tb w) {x : Int} (hx : 0 ≤ x ∧ x < 256) : Calls Tryd.prog 3 #[.int .u8 x] w (Law14 w) := by
  cases hof : ofP x with
  | none => exact infos_no w ht hx hof
  | some o => exact infos_some w ht hx hof
end Go.Proofs.YtbjjboicfghldaaDoor

/- What the program's isPush and Of answer. -/
import Derived.Test.YtbjjboicfghldabDoorG11
namespace Go.Proofs.YtbjjboicfghldabDoor
open Go.RowKit
open Wo
set_option linter.unusedVariables false
set_option maxRecDepth 100000
theorem wispush (x : Int) (hx0 : 0 ≤ x) (hx1 : x < 256) (w : World) : Calls Tryd.prog 27 #[.int .u8 x] w fun e w' => ∃ v, e = .returned v ∧ RVl w (.bool (isPu x)) v w' := by
  have hB : Bl w w := Bl.refl w
  refine cw_enter Tryd.func27 rfl 9 rfl ?_
  show CW _ _ _ _ _ _ _ [(0, .int .u8 x)] _
  refine cw_seq ?_
  refine cw_region ?_
  refine rw_p 2 (.bool false) (fun _ => by kernel_rfl) (fun _ => by kernel_rfl) ?_
  refine rw_nil ?_
  refine nw_then ?_
  refine cw_seq ?_
  refine cw_region ?_
  refine rw_p 3 (.int .u8 x) (fun _ => by kernel_rfl) (fun _ => by kernel_rfl) ?_
  refine rw_p 4 (.bool (decide ((x : Int) ≥ (32 : Int)))) (fun _ => by kernel_rfl) (fun _ => by kernel_rfl) ?_
  refine rw_p 5 (.bool (decide ((x : Int) ≥ (32 : Int)))) (fun _ => by kernel_rfl) (fun _ => by kernel_rfl) ?_
  cases hq1 : (decide ((x : Int) ≥ (32 : Int))) with
  | true =>
    have dhq1 := of_decide_eq_true hq1
    refine rw_p 6 (.int .u8 x) (fun _ => by kernel_rfl) (fun _ => by kernel_rfl) ?_
    refine rw_p 7 (.bool (decide ((x : Int) < (40 : Int)))) (fun _ => by kernel_rfl) (fun _ => by kernel_rfl) ?_
    refine rw_p 8 (.bool (decide ((x : Int) < (40 : Int)))) (fun _ => by kernel_rfl) (fun _ => by kernel_rfl) ?_
    refine rw_p 2 (.bool (decide ((x : Int) < (40 : Int)))) (fun _ => by kernel_rfl) (fun _ => by kernel_rfl) ?_
    refine rw_nil ?_
    refine nw_then ?_
    refine cw_ret ?_
    refine nw_ret_body (.bool (decide ((x : Int) < (40 : Int)))) (fun _ => by kernel_rfl) ?_
    refine ⟨_, rfl, ?_, hB⟩
    congr 1
    have := hq1
    unfold isPu; simp at *; try omega
  | false =>
    have dhq1 := of_decide_eq_false hq1
    refine rw_off 6 (fun _ => by kernel_rfl) ?_
    refine rw_off 7 (fun _ => by kernel_rfl) ?_
    refine rw_p 8 (.bool false) (fun _ => by kernel_rfl) (fun _ => by kernel_rfl) ?_
    refine rw_p 2 (.bool false) (fun _ => by kernel_rfl) (fun _ => by kernel_rfl) ?_
    refine rw_nil ?_
    refine nw_then ?_
    refine cw_ret ?_
    refine nw_ret_body (.bool false) (fun _ => by kernel_rfl) ?_
    refine ⟨_, rfl, ?_, hB⟩
    congr 1
    have := hq1
    unfold isPu; simp at *; try omega
set_option maxHeartbeats 1000000 in
theorem wof_p (x : Int) (hx0 : 0 ≤ x) (hx1 : x < 256) (hp : 32 ≤ x ∧ x < 40) (w : World) (ht : Tb w) : Calls Tryd.prog 14 #[.int .u8 x] w fun e w' => ∃ v, e = .returned v ∧ RVl w (.tuple #[.agg (NfV ((ofP x).getD nf0)), .bool (ofP x).isSome]) v w' := by
  have ht0 := ht
  have hB : Bl w w := Bl.refl w
  refine cw_enter Tryd.func14 rfl 39 rfl ?_
  show CW _ _ _ _ _ _ _ [(0, .int .u8 x)] _
  refine cw_seq ?_
  refine cw_region ?_
  refine rw_new 2 (#[.string (strOfNums []), .int .i64 0, .int .i64 0, .int .i64 0, .int .u64 0]) 43 (fun _ => by kernel_rfl) (fun _ => by kernel_rfl) ?_
  intro w1 g2 hn3
  have hzg2 : w.heap.size ≤ g2 := by have := hB.size; have := hn3.hg; omega
  replace hB := hB.go hn3.below
  replace ht := ht.go hn3.below
  have hr4 : Rw g2 w1 (#[.string (strOfNums []), .int .i64 0, .int .i64 0, .int .i64 0, .int .u64 0]) 43 := hn3.row
  refine rw_p 3 (.bool false) (fun _ => by kernel_rfl) (fun _ => by kernel_rfl) ?_
  refine rw_nil ?_
  refine nw_then ?_
  refine cw_seq ?_
  refine cw_region ?_
  refine rw_p 4 (.int .i64 0) (fun _ => by kernel_rfl) (fun _ => by kernel_rfl) ?_
  refine rw_nil ?_
  refine nw_then ?_
  refine cw_seq ?_
  refine cw_seq ?_
  refine cw_region ?_
  refine rw_p 7 (.int .u8 x) (fun _ => by kernel_rfl) (fun _ => by kernel_rfl) ?_
  refine rw_call 8 27 #[.int .u8 x] (fun _ => by kernel_rfl) (fun _ => by kernel_rfl) (R := RVl w1 (.bool true)) (by have := wispush x hx0 hx1 w1; rw [show isPu x = true from decide_eq_true hp] at this; exact this) ?_
  rintro _ w5 ⟨rfl, hb6⟩
  replace hB := hB.go hb6
  replace ht := ht.go hb6
  replace hr4 := hr4.go hb6
  refine rw_nil ?_
  refine nw_then ?_
  refine cw_cond_t (fun _ => by kernel_rfl) ?_
  refine cw_seq ?_
  refine cw_region ?_
  refine rw_p 9 (.int .u8 x) (fun _ => by kernel_rfl) (fun _ => by kernel_rfl) ?_
  refine rw_p 10 (.int .u8 ((x : Int) - (32 : Int))) (fun _ => by kernel_rfl) (fun _ => ol_conv (v := .int .u8 (IntKind.u8.wrap ((x : Int) - (32 : Int)))) (by kernel_rfl) (congrArg (Value.int .u8) (w8 (by omega) (by omega)))) ?_
  refine rw_p 11 (.int .i64 ((x : Int) - (32 : Int))) (fun _ => by kernel_rfl) (fun _ => ol_cv 5 3 .u8 .i64 _ ((x : Int) - (32 : Int)) ((x : Int) - (32 : Int)) rfl Tryd.underlying5 Tryd.underlying3 (by kernel_rfl) (wrapI (by right; right; exact ⟨rfl, by omega, by omega⟩))) ?_
  refine rw_p 4 (.int .i64 ((x : Int) - (32 : Int))) (fun _ => by kernel_rfl) (fun _ => by kernel_rfl) ?_
  refine rw_nil ?_
  refine nw_then ?_
  refine cw_region ?_
  refine rw_p 0 (.int .u8 32) (fun _ => by kernel_rfl) (fun _ => by kernel_rfl) ?_
  refine rw_nil ?_
  refine nw_then ?_
  refine cw_seq ?_
  refine cw_seq ?_
  refine cw_region ?_
  refine rw_p 12 (.agg tbc.toArray) (fun _ => by kernel_rfl) (fun _ => ol_tab _ rfl (by kernel_rfl) ht) ?_
  refine rw_p 13 (.int .i64 0) (fun _ => by kernel_rfl) (fun _ => by kernel_rfl) ?_
  refine rw_nil ?_
  refine nw_then ?_
  refine cw_block ?_
  refine cw_loop (fun i : Nat => [(12, .agg tbc.toArray), (0, .int .u8 32), (4, .int .i64 ((x : Int) - (32 : Int))), (2, .pointer (some ⟨g2, 0, none⟩)), (13, .int .i64 ((i : Nat) : Int))]) (fun i v => i ≤ 29 ∧ (∀ j, j < i → ((rdAt j).op : Int) ≠ 32) ∧ Bl w v ∧ Tb v ∧ Rw g2 v (#[.string (strOfNums []), .int .i64 0, .int .i64 0, .int .i64 0, .int .u64 0]) 43) (fun i => 29 - i) 0 (by exact ⟨fun _ => by kernel_rfl, ⟨fun _ => by kernel_rfl, ⟨fun _ => by kernel_rfl, ⟨fun _ => by kernel_rfl, ⟨fun _ => by kernel_rfl, trivial⟩⟩⟩⟩⟩) ⟨by omega, fun j hj => by omega, hB, ht, hr4⟩ ?_
  rintro i wl ⟨hi, hno, hB, ht, hr4⟩
  refine cw_seq ?_
  refine cw_region ?_
  refine rw_p 14 (.bool (decide (((i : Nat) : Int) < (29 : Int)))) (fun _ => by kernel_rfl) (fun _ => by kernel_rfl) ?_
  refine rw_nil ?_
  refine nw_then ?_
  refine cw_seq ?_
  cases hq7 : (decide (((i : Nat) : Int) < (29 : Int))) with
  | true =>
    have dhq7 := of_decide_eq_true hq7
    refine cw_cond_t (fun _ => by kernel_rfl) ?_
    refine cw_skip ?_
    refine nw_then ?_
    refine cw_seq ?_
    refine cw_block ?_
    refine cw_seq ?_
    refine cw_region ?_
    refine rw_p 15 (.agg (rowC (rdAt i)).toArray) (fun _ => by kernel_rfl) (fun _ => ol_ixT _ _ i rfl (by kernel_rfl) (by kernel_rfl) (by omega)) ?_
    refine rw_new 6 (#[.int .u8 0, .string (strOfNums []), .int .u8 0, .int .u8 0, .int .u8 0, .int .u8 0]) 67 (fun _ => by kernel_rfl) (fun _ => by kernel_rfl) ?_
    intro w8 g9 hn10
    have hlg2g9 : g2 < g9 := by have := hr4.lt; have := hn10.hg; omega
    have hzg9 : w.heap.size ≤ g9 := by have := hB.size; have := hn10.hg; omega
    have hr11 : Rw g9 w8 (#[.int .u8 0, .string (strOfNums []), .int .u8 0, .int .u8 0, .int .u8 0, .int .u8 0]) 67 := hn10.row
    refine rw_put g9 ((rowC (rdAt i)).toArray) (fun _ => by kernel_rfl) (fun _ => ol_store 67 _ _ _ _ _ 67 rfl (by kernel_rfl) (by kernel_rfl) hr11 (by kernel_rfl) rfl (by kernel_rfl)) ?_
    intro w12 hp13
    have hbg9 : Below wl.heap.size wl w12 := hp13.below hn10.below (Nat.le_of_eq hn10.hg.symm) (by have := hn10.size; have := hn10.hg; omega)
    replace hB := hB.go hbg9
    replace ht := ht.go hbg9
    replace hr4 := hr4.go hbg9
    have hr14 : Rw g9 w12 ((rowC (rdAt i)).toArray) 67 := hr11.put hp13
    refine rw_nil ?_
    refine nw_then ?_
    refine cw_seq ?_
    refine cw_region ?_
    refine rw_p 16 (.pointer (some ⟨g9, 0, none⟩)) (fun _ => by kernel_rfl) (fun _ => by kernel_rfl) ?_
    refine rw_p 17 (.int .u8 (((rdAt i).op : Nat) : Int)) (fun _ => by kernel_rfl) (fun _ => ol_cell 5 _ ⟨g9, 0, none⟩ _ _ rfl (by kernel_rfl) (by rw [cell_of_row _ _ _ _ _ _ hr14]; rfl) Tryd.underlying5 rfl) ?_
    refine rw_p 18 (.int .u8 32) (fun _ => by kernel_rfl) (fun _ => by kernel_rfl) ?_
    refine rw_p 19 (.bool ((((rdAt i).op : Nat) : Int) == (32 : Int))) (fun _ => by kernel_rfl) (fun _ => by kernel_rfl) ?_
    refine rw_nil ?_
    refine nw_then ?_
    cases hq15 : ((((rdAt i).op : Nat) : Int) == (32 : Int)) with
    | true =>
      have dhq15 := eq_of_beq hq15
      refine cw_cond_t (fun _ => by kernel_rfl) ?_
      refine cw_seq ?_
      have hsm := row_small i
      refine cw_region ?_
      refine rw_p 20 (.pointer (some ⟨g9, 1, none⟩)) (fun _ => by kernel_rfl) (fun _ => by kernel_rfl) ?_
      refine rw_p 21 (.string (strOfNums (rdAt i).wd)) (fun _ => by kernel_rfl) (fun _ => ol_cell 9 _ ⟨g9, 1, none⟩ _ _ rfl (by kernel_rfl) (by rw [cell_of_row _ _ _ _ _ _ hr14]; rfl) Tryd.underlying9 rfl) ?_
      refine rw_p 22 (.pointer (some ⟨g9, 2, none⟩)) (fun _ => by kernel_rfl) (fun _ => by kernel_rfl) ?_
      refine rw_p 23 (.int .u8 (((rdAt i).bh : Nat) : Int)) (fun _ => by kernel_rfl) (fun _ => ol_cell 5 _ ⟨g9, 2, none⟩ _ _ rfl (by kernel_rfl) (by rw [cell_of_row _ _ _ _ _ _ hr14]; rfl) Tryd.underlying5 rfl) ?_
      refine rw_p 24 (.int .i64 (((rdAt i).bh : Nat) : Int)) (fun _ => by kernel_rfl) (fun _ => ol_cv 5 3 .u8 .i64 _ (((rdAt i).bh : Nat) : Int) (((rdAt i).bh : Nat) : Int) rfl Tryd.underlying5 Tryd.underlying3 (by kernel_rfl) (wrapI (by right; right; exact ⟨rfl, by omega, by omega⟩))) ?_
      refine rw_p 25 (.int .i64 ((x : Int) - (32 : Int))) (fun _ => by kernel_rfl) (fun _ => by kernel_rfl) ?_
      refine rw_p 26 (.int .i64 ((((rdAt i).bh : Nat) : Int) + ((x : Int) - (32 : Int) : Int))) (fun _ => by kernel_rfl) (fun _ => ol_conv (v := .int .i64 (IntKind.i64.wrap ((((rdAt i).bh : Nat) : Int) + ((x : Int) - (32 : Int) : Int)))) (by kernel_rfl) (congrArg (Value.int .i64) (wrap64 (by omega) (by omega)))) ?_
      refine rw_p 27 (.pointer (some ⟨g9, 3, none⟩)) (fun _ => by kernel_rfl) (fun _ => by kernel_rfl) ?_
      refine rw_p 28 (.int .u8 (((rdAt i).tk : Nat) : Int)) (fun _ => by kernel_rfl) (fun _ => ol_cell 5 _ ⟨g9, 3, none⟩ _ _ rfl (by kernel_rfl) (by rw [cell_of_row _ _ _ _ _ _ hr14]; rfl) Tryd.underlying5 rfl) ?_
      refine rw_p 29 (.int .i64 (((rdAt i).tk : Nat) : Int)) (fun _ => by kernel_rfl) (fun _ => ol_cv 5 3 .u8 .i64 _ (((rdAt i).tk : Nat) : Int) (((rdAt i).tk : Nat) : Int) rfl Tryd.underlying5 Tryd.underlying3 (by kernel_rfl) (wrapI (by right; right; exact ⟨rfl, by omega, by omega⟩))) ?_
      refine rw_p 30 (.pointer (some ⟨g9, 4, none⟩)) (fun _ => by kernel_rfl) (fun _ => by kernel_rfl) ?_
      refine rw_p 31 (.int .u8 (((rdAt i).gv : Nat) : Int)) (fun _ => by kernel_rfl) (fun _ => ol_cell 5 _ ⟨g9, 4, none⟩ _ _ rfl (by kernel_rfl) (by rw [cell_of_row _ _ _ _ _ _ hr14]; rfl) Tryd.underlying5 rfl) ?_
      refine rw_p 32 (.int .i64 (((rdAt i).gv : Nat) : Int)) (fun _ => by kernel_rfl) (fun _ => ol_cv 5 3 .u8 .i64 _ (((rdAt i).gv : Nat) : Int) (((rdAt i).gv : Nat) : Int) rfl Tryd.underlying5 Tryd.underlying3 (by kernel_rfl) (wrapI (by right; right; exact ⟨rfl, by omega, by omega⟩))) ?_
      refine rw_p 33 (.pointer (some ⟨g9, 5, none⟩)) (fun _ => by kernel_rfl) (fun _ => by kernel_rfl) ?_
      refine rw_p 34 (.int .u8 (((rdAt i).gs : Nat) : Int)) (fun _ => by kernel_rfl) (fun _ => ol_cell 5 _ ⟨g9, 5, none⟩ _ _ rfl (by kernel_rfl) (by rw [cell_of_row _ _ _ _ _ _ hr14]; rfl) Tryd.underlying5 rfl) ?_
      refine rw_p 35 (.int .u64 (((rdAt i).gs : Nat) : Int)) (fun _ => by kernel_rfl) (fun _ => ol_cv 5 29 .u8 .u64 _ (((rdAt i).gs : Nat) : Int) (((rdAt i).gs : Nat) : Int) rfl Tryd.underlying5 Tryd.underlying29 (by kernel_rfl) (wrapI (by right; left; exact ⟨rfl, by omega, by omega⟩))) ?_
      refine rw_p 36 (.agg #[.string (strOfNums (rdAt i).wd), .int .i64 ((((rdAt i).bh : Nat) : Int) + ((x : Int) - (32 : Int) : Int)), .int .i64 (((rdAt i).tk : Nat) : Int), .int .i64 (((rdAt i).gv : Nat) : Int), .int .u64 (((rdAt i).gs : Nat) : Int)]) (fun _ => by kernel_rfl) (fun _ => by kernel_rfl) ?_
      refine rw_put g2 (#[.string (strOfNums (rdAt i).wd), .int .i64 ((((rdAt i).bh : Nat) : Int) + ((x : Int) - (32 : Int) : Int)), .int .i64 (((rdAt i).tk : Nat) : Int), .int .i64 (((rdAt i).gv : Nat) : Int), .int .u64 (((rdAt i).gs : Nat) : Int)]) (fun _ => by kernel_rfl) (fun _ => ol_store 43 _ _ _ _ _ 43 rfl (by kernel_rfl) (by kernel_rfl) hr4 (by kernel_rfl) rfl (by kernel_rfl)) ?_
      intro w16 hp17
      replace hB := hB.put hp17 hzg2
      replace ht := ht.put hp17 (by have := ht0.lt; omega)
      replace hr4 := hr4.put hp17
      replace hr14 := hr14.past hp17 (by omega)
      refine rw_p 3 (.bool true) (fun _ => by kernel_rfl) (fun _ => by kernel_rfl) ?_
      refine rw_nil ?_
      refine nw_then ?_
      refine cw_ret ?_
      refine nw_ret_block ?_
      refine nw_ret_then ?_
      refine nw_ret_then ?_
      refine nw_ret_block ?_
      refine nw_ret_then ?_
      have hsm := row_small i
      have hfd : fdP 32 = some (rdAt i) := fd_at (by omega) hno (by simpa using hq15)
      rw [fd_push] at hfd
      have hrd := Option.some.inj hfd
      have hof := of_push hp
      have hV : ((ofP x).getD nf0) = ⟨(rdAt i).wd, (rdAt i).bh + (x - 32).toNat, (rdAt i).tk, (rdAt i).gv, (rdAt i).gs⟩ := by rw [hof, ← hrd]; simp; omega
      have hI : (ofP x).isSome = true := by rw [hof]; rfl
      rw [hV, hI]
      refine nw_ret_body (.tuple #[.agg (#[.string (strOfNums (rdAt i).wd), .int .i64 ((((rdAt i).bh : Nat) : Int) + ((x : Int) - (32 : Int) : Int)), .int .i64 (((rdAt i).tk : Nat) : Int), .int .i64 (((rdAt i).gv : Nat) : Int), .int .u64 (((rdAt i).gs : Nat) : Int)]), .bool true]) (fun _ => res_c2 rfl _ g2 _ _ (by kernel_rfl) (by kernel_rfl) hr4 Tryd.underlying43 rfl (by kernel_rfl)) ?_
      refine ⟨_, rfl, ?_, hB⟩
      first | rfl | (unfold NfV; simp; omega)
    | false =>
      have dhq15 := ne_of_beq_false hq15
      refine cw_cond_f (fun _ => by kernel_rfl) ?_
      refine cw_skip ?_
      refine nw_block ?_
      refine nw_then ?_
      refine cw_region ?_
      refine rw_p 37 (.int .i64 ((i + 1 : Nat) : Int)) (fun _ => by kernel_rfl) (fun _ => ol_conv (v := .int .i64 (IntKind.i64.wrap (((i : Nat) : Int) + (1 : Int)))) (by kernel_rfl) (congrArg (Value.int .i64) (show IntKind.i64.wrap (((i : Nat) : Int) + (1 : Int)) = ((i + 1 : Nat) : Int) from (wrap64 (by omega) (by omega)).trans (by omega)))) ?_
      refine rw_p 13 (.int .i64 ((i + 1 : Nat) : Int)) (fun _ => by kernel_rfl) (fun _ => by kernel_rfl) ?_
      refine rw_nil ?_
      refine nw_round (i + 1) (by exact ⟨fun _ => by kernel_rfl, ⟨fun _ => by kernel_rfl, ⟨fun _ => by kernel_rfl, ⟨fun _ => by kernel_rfl, ⟨fun _ => by kernel_rfl, trivial⟩⟩⟩⟩⟩) ⟨by omega, fun j hj => ?_, hB, ht, hr4⟩ (by omega)
      by_cases hji : j = i
      · subst hji; simpa using hq15
      · exact hno j (by omega)
  | false =>
    have dhq7 := of_decide_eq_false hq7
    refine cw_cond_f (fun _ => by kernel_rfl) ?_
    refine cw_exit ?_
    refine nw_exit_then ?_
    refine nw_exit_then ?_
    refine nw_exit_here ?_
    refine nw_then ?_
    refine cw_seq ?_
    refine cw_region ?_
    refine rw_p 38 (.agg #[.string (strOfNums []), .int .i64 0, .int .i64 0, .int .i64 0, .int .u64 0]) (fun _ => by kernel_rfl) (fun _ => by kernel_rfl) ?_
    refine rw_put g2 (#[.string (strOfNums []), .int .i64 0, .int .i64 0, .int .i64 0, .int .u64 0]) (fun _ => by kernel_rfl) (fun _ => ol_store 43 _ _ _ _ _ 43 rfl (by kernel_rfl) (by kernel_rfl) hr4 (by kernel_rfl) rfl (by kernel_rfl)) ?_
    intro w18 hp19
    replace hB := hB.put hp19 hzg2
    replace ht := ht.put hp19 (by have := ht0.lt; omega)
    replace hr4 := hr4.put hp19
    refine rw_p 3 (.bool false) (fun _ => by kernel_rfl) (fun _ => by kernel_rfl) ?_
    refine rw_nil ?_
    refine nw_then ?_
    refine cw_ret ?_
    exact absurd (show ((rdAt 9).op : Int) = 32 from rfl) (hno 9 (by omega))
set_option maxHeartbeats 1000000 in
theorem wof_n (x : Int) (hx0 : 0 ≤ x) (hx1 : x < 256) (hp : ¬ (32 ≤ x ∧ x < 40)) (w : World) (ht : Tb w) : Calls Tryd.prog 14 #[.int .u8 x] w fun e w' => ∃ v, e = .returned v ∧ RVl w (.tuple #[.agg (NfV ((ofP x).getD nf0)), .bool (ofP x).isSome]) v w' := by
  have ht0 := ht
  have hB : Bl w w := Bl.refl w
  refine cw_enter Tryd.func14 rfl 39 rfl ?_
  show CW _ _ _ _ _ _ _ [(0, .int .u8 x)] _
  refine cw_seq ?_
  refine cw_region ?_
  refine rw_new 2 (#[.string (strOfNums []), .int .i64 0, .int .i64 0, .int .i64 0, .int .u64 0]) 43 (fun _ => by kernel_rfl) (fun _ => by kernel_rfl) ?_
  intro w1 g2 hn3
  have hzg2 : w.heap.size ≤ g2 := by have := hB.size; have := hn3.hg; omega
  replace hB := hB.go hn3.below
  replace ht := ht.go hn3.below
  have hr4 : Rw g2 w1 (#[.string (strOfNums []), .int .i64 0, .int .i64 0, .int .i64 0, .int .u64 0]) 43 := hn3.row
  refine rw_p 3 (.bool false) (fun _ => by kernel_rfl) (fun _ => by kernel_rfl) ?_
  refine rw_nil ?_
  refine nw_then ?_
  refine cw_seq ?_
  refine cw_region ?_
  refine rw_p 4 (.int .i64 0) (fun _ => by kernel_rfl) (fun _ => by kernel_rfl) ?_
  refine rw_nil ?_
  refine nw_then ?_
  refine cw_seq ?_
  refine cw_seq ?_
  refine cw_region ?_
  refine rw_p 7 (.int .u8 x) (fun _ => by kernel_rfl) (fun _ => by kernel_rfl) ?_
  refine rw_call 8 27 #[.int .u8 x] (fun _ => by kernel_rfl) (fun _ => by kernel_rfl) (R := RVl w1 (.bool false)) (by have := wispush x hx0 hx1 w1; rw [show isPu x = false from decide_eq_false hp] at this; exact this) ?_
  rintro _ w5 ⟨rfl, hb6⟩
  replace hB := hB.go hb6
  replace ht := ht.go hb6
  replace hr4 := hr4.go hb6
  refine rw_nil ?_
  refine nw_then ?_
  refine cw_cond_f (fun _ => by kernel_rfl) ?_
  refine cw_skip ?_
  refine nw_then ?_
  refine cw_seq ?_
  refine cw_seq ?_
  refine cw_region ?_
  refine rw_p 12 (.agg tbc.toArray) (fun _ => by kernel_rfl) (fun _ => ol_tab _ rfl (by kernel_rfl) ht) ?_
  refine rw_p 13 (.int .i64 0) (fun _ => by kernel_rfl) (fun _ => by kernel_rfl) ?_
  refine rw_nil ?_
  refine nw_then ?_
  refine cw_block ?_
  refine cw_loop (fun i : Nat => [(12, .agg tbc.toArray), (4, .int .i64 0), (2, .pointer (some ⟨g2, 0, none⟩)), (0, .int .u8 x), (13, .int .i64 ((i : Nat) : Int))]) (fun i v => i ≤ 29 ∧ (∀ j, j < i → ((rdAt j).op : Int) ≠ x) ∧ Bl w v ∧ Tb v ∧ Rw g2 v (#[.string (strOfNums []), .int .i64 0, .int .i64 0, .int .i64 0, .int .u64 0]) 43) (fun i => 29 - i) 0 (by exact ⟨fun _ => by kernel_rfl, ⟨fun _ => by kernel_rfl, ⟨fun _ => by kernel_rfl, ⟨fun _ => by kernel_rfl, ⟨fun _ => by kernel_rfl, trivial⟩⟩⟩⟩⟩) ⟨by omega, fun j hj => by omega, hB, ht, hr4⟩ ?_
  rintro i wl ⟨hi, hno, hB, ht, hr4⟩
  refine cw_seq ?_
  refine cw_region ?_
  refine rw_p 14 (.bool (decide (((i : Nat) : Int) < (29 : Int)))) (fun _ => by kernel_rfl) (fun _ => by kernel_rfl) ?_
  refine rw_nil ?_
  refine nw_then ?_
  refine cw_seq ?_
  cases hq7 : (decide (((i : Nat) : Int) < (29 : Int))) with
  | true =>
    have dhq7 := of_decide_eq_true hq7
    refine cw_cond_t (fun _ => by kernel_rfl) ?_
    refine cw_skip ?_
    refine nw_then ?_
    refine cw_seq ?_
    refine cw_block ?_
    refine cw_seq ?_
    refine cw_region ?_
    refine rw_p 15 (.agg (rowC (rdAt i)).toArray) (fun _ => by kernel_rfl) (fun _ => ol_ixT _ _ i rfl (by kernel_rfl) (by kernel_rfl) (by omega)) ?_
    refine rw_new 6 (#[.int .u8 0, .string (strOfNums []), .int .u8 0, .int .u8 0, .int .u8 0, .int .u8 0]) 67 (fun _ => by kernel_rfl) (fun _ => by kernel_rfl) ?_
    intro w8 g9 hn10
    have hlg2g9 : g2 < g9 := by have := hr4.lt; have := hn10.hg; omega
    have hzg9 : w.heap.size ≤ g9 := by have := hB.size; have := hn10.hg; omega
    have hr11 : Rw g9 w8 (#[.int .u8 0, .string (strOfNums []), .int .u8 0, .int .u8 0, .int .u8 0, .int .u8 0]) 67 := hn10.row
    refine rw_put g9 ((rowC (rdAt i)).toArray) (fun _ => by kernel_rfl) (fun _ => ol_store 67 _ _ _ _ _ 67 rfl (by kernel_rfl) (by kernel_rfl) hr11 (by kernel_rfl) rfl (by kernel_rfl)) ?_
    intro w12 hp13
    have hbg9 : Below wl.heap.size wl w12 := hp13.below hn10.below (Nat.le_of_eq hn10.hg.symm) (by have := hn10.size; have := hn10.hg; omega)
    replace hB := hB.go hbg9
    replace ht := ht.go hbg9
    replace hr4 := hr4.go hbg9
    have hr14 : Rw g9 w12 ((rowC (rdAt i)).toArray) 67 := hr11.put hp13
    refine rw_nil ?_
    refine nw_then ?_
    refine cw_seq ?_
    refine cw_region ?_
    refine rw_p 16 (.pointer (some ⟨g9, 0, none⟩)) (fun _ => by kernel_rfl) (fun _ => by kernel_rfl) ?_
    refine rw_p 17 (.int .u8 (((rdAt i).op : Nat) : Int)) (fun _ => by kernel_rfl) (fun _ => ol_cell 5 _ ⟨g9, 0, none⟩ _ _ rfl (by kernel_rfl) (by rw [cell_of_row _ _ _ _ _ _ hr14]; rfl) Tryd.underlying5 rfl) ?_
    refine rw_p 18 (.int .u8 x) (fun _ => by kernel_rfl) (fun _ => by kernel_rfl) ?_
    refine rw_p 19 (.bool ((((rdAt i).op : Nat) : Int) == (x : Int))) (fun _ => by kernel_rfl) (fun _ => by kernel_rfl) ?_
    refine rw_nil ?_
    refine nw_then ?_
    cases hq15 : ((((rdAt i).op : Nat) : Int) == (x : Int)) with
    | true =>
      have dhq15 := eq_of_beq hq15
      refine cw_cond_t (fun _ => by kernel_rfl) ?_
      refine cw_seq ?_
      have hsm := row_small i
      refine cw_region ?_
      refine rw_p 20 (.pointer (some ⟨g9, 1, none⟩)) (fun _ => by kernel_rfl) (fun _ => by kernel_rfl) ?_
      refine rw_p 21 (.string (strOfNums (rdAt i).wd)) (fun _ => by kernel_rfl) (fun _ => ol_cell 9 _ ⟨g9, 1, none⟩ _ _ rfl (by kernel_rfl) (by rw [cell_of_row _ _ _ _ _ _ hr14]; rfl) Tryd.underlying9 rfl) ?_
      refine rw_p 22 (.pointer (some ⟨g9, 2, none⟩)) (fun _ => by kernel_rfl) (fun _ => by kernel_rfl) ?_
      refine rw_p 23 (.int .u8 (((rdAt i).bh : Nat) : Int)) (fun _ => by kernel_rfl) (fun _ => ol_cell 5 _ ⟨g9, 2, none⟩ _ _ rfl (by kernel_rfl) (by rw [cell_of_row _ _ _ _ _ _ hr14]; rfl) Tryd.underlying5 rfl) ?_
      refine rw_p 24 (.int .i64 (((rdAt i).bh : Nat) : Int)) (fun _ => by kernel_rfl) (fun _ => ol_cv 5 3 .u8 .i64 _ (((rdAt i).bh : Nat) : Int) (((rdAt i).bh : Nat) : Int) rfl Tryd.underlying5 Tryd.underlying3 (by kernel_rfl) (wrapI (by right; right; exact ⟨rfl, by omega, by omega⟩))) ?_
      refine rw_p 25 (.int .i64 0) (fun _ => by kernel_rfl) (fun _ => by kernel_rfl) ?_
      refine rw_p 26 (.int .i64 ((((rdAt i).bh) + 0 : Nat) : Int)) (fun _ => by kernel_rfl) (fun _ => ol_conv (v := .int .i64 (IntKind.i64.wrap ((((rdAt i).bh : Nat) : Int) + (0 : Int)))) (by kernel_rfl) (congrArg (Value.int .i64) (show IntKind.i64.wrap ((((rdAt i).bh : Nat) : Int) + (0 : Int)) = ((((rdAt i).bh) + 0 : Nat) : Int) from (wrap64 (by omega) (by omega)).trans (by omega)))) ?_
      refine rw_p 27 (.pointer (some ⟨g9, 3, none⟩)) (fun _ => by kernel_rfl) (fun _ => by kernel_rfl) ?_
      refine rw_p 28 (.int .u8 (((rdAt i).tk : Nat) : Int)) (fun _ => by kernel_rfl) (fun _ => ol_cell 5 _ ⟨g9, 3, none⟩ _ _ rfl (by kernel_rfl) (by rw [cell_of_row _ _ _ _ _ _ hr14]; rfl) Tryd.underlying5 rfl) ?_
      refine rw_p 29 (.int .i64 (((rdAt i).tk : Nat) : Int)) (fun _ => by kernel_rfl) (fun _ => ol_cv 5 3 .u8 .i64 _ (((rdAt i).tk : Nat) : Int) (((rdAt i).tk : Nat) : Int) rfl Tryd.underlying5 Tryd.underlying3 (by kernel_rfl) (wrapI (by right; right; exact ⟨rfl, by omega, by omega⟩))) ?_
      refine rw_p 30 (.pointer (some ⟨g9, 4, none⟩)) (fun _ => by kernel_rfl) (fun _ => by kernel_rfl) ?_
      refine rw_p 31 (.int .u8 (((rdAt i).gv : Nat) : Int)) (fun _ => by kernel_rfl) (fun _ => ol_cell 5 _ ⟨g9, 4, none⟩ _ _ rfl (by kernel_rfl) (by rw [cell_of_row _ _ _ _ _ _ hr14]; rfl) Tryd.underlying5 rfl) ?_
      refine rw_p 32 (.int .i64 (((rdAt i).gv : Nat) : Int)) (fun _ => by kernel_rfl) (fun _ => ol_cv 5 3 .u8 .i64 _ (((rdAt i).gv : Nat) : Int) (((rdAt i).gv : Nat) : Int) rfl Tryd.underlying5 Tryd.underlying3 (by kernel_rfl) (wrapI (by right; right; exact ⟨rfl, by omega, by omega⟩))) ?_
      refine rw_p 33 (.pointer (some ⟨g9, 5, none⟩)) (fun _ => by kernel_rfl) (fun _ => by kernel_rfl) ?_
      refine rw_p 34 (.int .u8 (((rdAt i).gs : Nat) : Int)) (fun _ => by kernel_rfl) (fun _ => ol_cell 5 _ ⟨g9, 5, none⟩ _ _ rfl (by kernel_rfl) (by rw [cell_of_row _ _ _ _ _ _ hr14]; rfl) Tryd.underlying5 rfl) ?_
      refine rw_p 35 (.int .u64 (((rdAt i).gs : Nat) : Int)) (fun _ => by kernel_rfl) (fun _ => ol_cv 5 29 .u8 .u64 _ (((rdAt i).gs : Nat) : Int) (((rdAt i).gs : Nat) : Int) rfl Tryd.underlying5 Tryd.underlying29 (by kernel_rfl) (wrapI (by right; left; exact ⟨rfl, by omega, by omega⟩))) ?_
      refine rw_p 36 (.agg #[.string (strOfNums (rdAt i).wd), .int .i64 ((((rdAt i).bh) + 0 : Nat) : Int), .int .i64 (((rdAt i).tk : Nat) : Int), .int .i64 (((rdAt i).gv : Nat) : Int), .int .u64 (((rdAt i).gs : Nat) : Int)]) (fun _ => by kernel_rfl) (fun _ => by kernel_rfl) ?_
      refine rw_put g2 (#[.string (strOfNums (rdAt i).wd), .int .i64 ((((rdAt i).bh) + 0 : Nat) : Int), .int .i64 (((rdAt i).tk : Nat) : Int), .int .i64 (((rdAt i).gv : Nat) : Int), .int .u64 (((rdAt i).gs : Nat) : Int)]) (fun _ => by kernel_rfl) (fun _ => ol_store 43 _ _ _ _ _ 43 rfl (by kernel_rfl) (by kernel_rfl) hr4 (by kernel_rfl) rfl (by kernel_rfl)) ?_
      intro w16 hp17
      replace hB := hB.put hp17 hzg2
      replace ht := ht.put hp17 (by have := ht0.lt; omega)
      replace hr4 := hr4.put hp17
      replace hr14 := hr14.past hp17 (by omega)
      refine rw_p 3 (.bool true) (fun _ => by kernel_rfl) (fun _ => by kernel_rfl) ?_
      refine rw_nil ?_
      refine nw_then ?_
      refine cw_ret ?_
      refine nw_ret_block ?_
      refine nw_ret_then ?_
      refine nw_ret_then ?_
      refine nw_ret_block ?_
      refine nw_ret_then ?_
      have hsm := row_small i
      have hfd : fdP x = some (rdAt i) := fd_at (by omega) hno (by simpa using hq15)
      have hof := of_not hp
      rw [hfd] at hof
      have hV : ((ofP x).getD nf0) = ⟨(rdAt i).wd, (rdAt i).bh, (rdAt i).tk, (rdAt i).gv, (rdAt i).gs⟩ := by rw [hof]; rfl
      have hI : (ofP x).isSome = true := by rw [hof]; rfl
      rw [hV, hI]
      refine nw_ret_body (.tuple #[.agg (#[.string (strOfNums (rdAt i).wd), .int .i64 ((((rdAt i).bh) + 0 : Nat) : Int), .int .i64 (((rdAt i).tk : Nat) : Int), .int .i64 (((rdAt i).gv : Nat) : Int), .int .u64 (((rdAt i).gs : Nat) : Int)]), .bool true]) (fun _ => res_c2 rfl _ g2 _ _ (by kernel_rfl) (by kernel_rfl) hr4 Tryd.underlying43 rfl (by kernel_rfl)) ?_
      refine ⟨_, rfl, ?_, hB⟩
      first | rfl | (unfold NfV; simp; omega)
    | false =>
      have dhq15 := ne_of_beq_false hq15
      refine cw_cond_f (fun _ => by kernel_rfl) ?_
      refine cw_skip ?_
      refine nw_block ?_
      refine nw_then ?_
      refine cw_region ?_
      refine rw_p 37 (.int .i64 ((i + 1 : Nat) : Int)) (fun _ => by kernel_rfl) (fun _ => ol_conv (v := .int .i64 (IntKind.i64.wrap (((i : Nat) : Int) + (1 : Int)))) (by kernel_rfl) (congrArg (Value.int .i64) (show IntKind.i64.wrap (((i : Nat) : Int) + (1 : Int)) = ((i + 1 : Nat) : Int) from (wrap64 (by omega) (by omega)).trans (by omega)))) ?_
      refine rw_p 13 (.int .i64 ((i + 1 : Nat) : Int)) (fun _ => by kernel_rfl) (fun _ => by kernel_rfl) ?_
      refine rw_nil ?_
      refine nw_round (i + 1) (by exact ⟨fun _ => by kernel_rfl, ⟨fun _ => by kernel_rfl, ⟨fun _ => by kernel_rfl, ⟨fun _ => by kernel_rfl, ⟨fun _ => by kernel_rfl, trivial⟩⟩⟩⟩⟩) ⟨by omega, fun j hj => ?_, hB, ht, hr4⟩ (by omega)
      by_cases hji : j = i
      · subst hji; simpa using hq15
      · exact hno j (by omega)
  | false =>
    have dhq7 := of_decide_eq_false hq7
    refine cw_cond_f (fun _ => by kernel_rfl) ?_
    refine cw_exit ?_
    refine nw_exit_then ?_
    refine nw_exit_then ?_
    refine nw_exit_here ?_
    refine nw_then ?_
    refine cw_seq ?_
    refine cw_region ?_
    refine rw_p 38 (.agg #[.string (strOfNums []), .int .i64 0, .int .i64 0, .int .i64 0, .int .u64 0]) (fun _ => by kernel_rfl) (fun _ => by kernel_rfl) ?_
    refine rw_put g2 (#[.string (strOfNums []), .int .i64 0, .int .i64 0, .int .i64 0, .int .u64 0]) (fun _ => by kernel_rfl) (fun _ => ol_store 43 _ _ _ _ _ 43 rfl (by kernel_rfl) (by kernel_rfl) hr4 (by kernel_rfl) rfl (by kernel_rfl)) ?_
    intro w18 hp19
    replace hB := hB.put hp19 hzg2
    replace ht := ht.put hp19 (by have := ht0.lt; omega)
    replace hr4 := hr4.put hp19
    refine rw_p 3 (.bool false) (fun _ => by kernel_rfl) (fun _ => by kernel_rfl) ?_
    refine rw_nil ?_
    refine nw_then ?_
    refine cw_ret ?_
    have hfd : fdP x = none := fd_no (fun j hj => hno j (by omega))
    have hof := of_not hp
    rw [hfd] at hof
    have hV : ((ofP x).getD nf0) = nf0 := by rw [hof]; rfl
    have hI : (ofP x).isSome = false := by rw [hof]; rfl
    rw [hV, hI]
    refine nw_ret_body (.tuple #[.agg (#[.string (strOfNums []), .int .i64 0, .int .i64 0, .int .i64 0, .int .u64 0]), .bool false]) (fun _ => res_c2 rfl _ g2 _ _ (by kernel_rfl) (by kernel_rfl) hr4 Tryd.underlying43 rfl (by kernel_rfl)) ?_
    refine ⟨_, rfl, ?_, hB⟩
    first | rfl | (unfold NfV; simp; omega)
theorem wof (x : Int) (hx0 : 0 ≤ x) (hx1 : x < 256) (w : World) (ht : Tb w) : Calls Tryd.prog 14 #[.int .u8 x] w fun e w' => ∃ v, e = .returned v ∧ RVl w (.tuple #[.agg (NfV ((ofP x).getD nf0)), .bool (ofP x).isSome]) v w' := by
  by_cases hp : 32 ≤ x ∧ x < 40
  · exact wof_p x hx0 hx1 hp w ht
  · exact wof_n x hx0 hx1 hp w ht
theorem wof_no {x : Int} (h : ofP x = none) (hx : 0 ≤ x ∧ x < 256) (w : World) (ht : Tb w) : Calls Tryd.prog 14 #[.int .u8 x] w fun e w' => ∃ v, e = .returned v ∧ RVl w (.tuple #[.agg (NfV nf0), .bool false]) v w' := by
  have := wof x hx.1 hx.2 w ht
  rw [h] at this
  exact this
theorem wof_yes {x : Int} {o : Nf} (h : ofP x = some o) (hx : 0 ≤ x ∧ x < 256) (w : World) (ht : Tb w) : Calls Tryd.prog 14 #[.int .u8 x] w fun e w' => ∃ v, e = .returned v ∧ RVl w (.tuple #[.agg (NfV o), .bool true]) v w' := by
  have := wof x hx.1 hx.2 w ht
  rw [h] at this
  exact this
end Go.Proofs.YtbjjboicfghldabDoor

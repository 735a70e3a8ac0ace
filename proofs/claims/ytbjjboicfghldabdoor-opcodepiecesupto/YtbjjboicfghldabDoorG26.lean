/- What the program's begun, statement and Assemble answer. -/
import Derived.Test.YtbjjboicfghldabDoorG25
namespace Go.Proofs.YtbjjboicfghldabDoor
open Go.RowKit
open Wo
set_option linter.unusedVariables false
set_option maxRecDepth 100000
set_option maxHeartbeats 2000000 in
theorem wbegun {l : List Int} (hb : Byt l) (w : World) (ht : Tb w) : Calls Tryd.prog 22 #[.string (strOfNums l)] w fun e w' => ∃ v, e = .returned v ∧ RBg w (bgP l) v w' := by
  have ht0 := ht
  have hB : Bl w w := Bl.refl w
  refine cw_enter Tryd.func22 rfl 40 rfl ?_
  show CW _ _ _ _ _ _ _ [(0, .string (strOfNums l))] _
  refine cw_seq ?_
  refine cw_region ?_
  refine rw_p 2 (.slice none 0 0) (fun _ => by kernel_rfl) (fun _ => by kernel_rfl) ?_
  refine rw_p 3 (.int .i64 0) (fun _ => by kernel_rfl) (fun _ => by kernel_rfl) ?_
  refine rw_p 4 (.bool false) (fun _ => by kernel_rfl) (fun _ => by kernel_rfl) ?_
  refine rw_nil ?_
  refine nw_then ?_
  refine cw_seq ?_
  refine cw_seq ?_
  refine cw_region ?_
  refine rw_p 8 (.string (strOfNums l)) (fun _ => by kernel_rfl) (fun _ => by kernel_rfl) ?_
  refine rw_nil ?_
  refine nw_then ?_
  refine cw_block ?_
  refine cw_seq ?_
  refine cw_region ?_
  refine rw_p 10 (.bool (decide (l = pushW))) (fun _ => by kernel_rfl) (fun _ => ol_eqS 9 _ _ _ l pushW rfl (by kernel_rfl) (by kernel_rfl) hb (byt_lit (by decide))) ?_
  refine rw_p 9 (.bool (decide (l = pushW))) (fun _ => by kernel_rfl) (fun _ => by kernel_rfl) ?_
  refine rw_nil ?_
  refine nw_then ?_
  cases hq1 : (decide (l = pushW)) with
  | true =>
    have dhq1 := of_decide_eq_true hq1
    refine cw_cond_t (fun _ => by kernel_rfl) ?_
    refine cw_seq ?_
    refine cw_region ?_
    refine rw_p 2 (.slice none 0 0) (fun _ => by kernel_rfl) (fun _ => by kernel_rfl) ?_
    refine rw_p 3 (.int .i64 8) (fun _ => by kernel_rfl) (fun _ => by kernel_rfl) ?_
    refine rw_p 4 (.bool true) (fun _ => by kernel_rfl) (fun _ => by kernel_rfl) ?_
    refine rw_nil ?_
    refine nw_then ?_
    refine cw_ret ?_
    refine nw_ret_block ?_
    refine nw_ret_then ?_
    have hbg : bgP l = some ([], 8) := by rw [dhq1]; rfl
    rw [hbg]
    refine nw_ret_body (.tuple #[.slice none 0 0, .int .i64 8, .bool true]) (fun _ => by kernel_rfl) ?_
    exact ⟨_, rfl, _, rfl, ownB_nil _ _, hB⟩
  | false =>
    have dhq1 := of_decide_eq_false hq1
    refine cw_cond_f (fun _ => by kernel_rfl) ?_
    refine cw_seq ?_
    refine cw_region ?_
    refine rw_p 12 (.bool (decide (l = byteW))) (fun _ => by kernel_rfl) (fun _ => ol_eqS 9 _ _ _ l byteW rfl (by kernel_rfl) (by kernel_rfl) hb (byt_lit (by decide))) ?_
    refine rw_p 11 (.bool (decide (l = byteW))) (fun _ => by kernel_rfl) (fun _ => by kernel_rfl) ?_
    refine rw_nil ?_
    refine nw_then ?_
    cases hq2 : (decide (l = byteW)) with
    | true =>
      have dhq2 := of_decide_eq_true hq2
      refine cw_cond_t (fun _ => by kernel_rfl) ?_
      refine cw_seq ?_
      refine cw_region ?_
      refine rw_p 2 (.slice none 0 0) (fun _ => by kernel_rfl) (fun _ => by kernel_rfl) ?_
      refine rw_p 3 (.int .i64 1) (fun _ => by kernel_rfl) (fun _ => by kernel_rfl) ?_
      refine rw_p 4 (.bool true) (fun _ => by kernel_rfl) (fun _ => by kernel_rfl) ?_
      refine rw_nil ?_
      refine nw_then ?_
      refine cw_ret ?_
      refine nw_ret_block ?_
      refine nw_ret_then ?_
      have hbg : bgP l = some ([], 1) := by rw [dhq2]; rfl
      rw [hbg]
      refine nw_ret_body (.tuple #[.slice none 0 0, .int .i64 1, .bool true]) (fun _ => by kernel_rfl) ?_
      exact ⟨_, rfl, _, rfl, ownB_nil _ _, hB⟩
    | false =>
      have dhq2 := of_decide_eq_false hq2
      refine cw_cond_f (fun _ => by kernel_rfl) ?_
      refine cw_skip ?_
      refine nw_block ?_
      refine nw_then ?_
      refine cw_seq ?_
      refine cw_seq ?_
      refine cw_region ?_
      refine rw_p 5 (.int .i64 1) (fun _ => by kernel_rfl) (fun _ => by kernel_rfl) ?_
      refine rw_nil ?_
      refine nw_then ?_
      refine cw_block ?_
      have hnp := dhq1
      have hnb := dhq2
      refine cw_loop (X := Nat) (fun q => [(0, .string (strOfNums l)), (5, .int .i64 ((q : Nat) : Int))]) (fun q v => 1 ≤ q ∧ q ≤ 9 ∧ (∀ j, 1 ≤ j → j < q → l ≠ pushW ++ pr j) ∧ Bl w v) (fun q => 9 - q) 1 (by exact ⟨fun _ => by kernel_rfl, ⟨fun _ => by kernel_rfl, trivial⟩⟩) ⟨by omega, by omega, fun j h1 h2 => by omega, hB⟩ ?_
      rintro i wl ⟨hi1, hi9, hno, hB⟩
      have ht := ht0.go hB
      refine cw_seq ?_
      refine cw_seq ?_
      refine cw_region ?_
      refine rw_p 13 (.int .i64 ((i : Nat) : Int)) (fun _ => by kernel_rfl) (fun _ => by kernel_rfl) ?_
      refine rw_p 14 (.bool (decide (((i : Nat) : Int) ≤ (8 : Int)))) (fun _ => by kernel_rfl) (fun _ => by kernel_rfl) ?_
      refine rw_nil ?_
      refine nw_then ?_
      cases hq3 : (decide (((i : Nat) : Int) ≤ (8 : Int))) with
      | true =>
        have dhq3 := of_decide_eq_true hq3
        refine cw_cond_t (fun _ => by kernel_rfl) ?_
        refine cw_skip ?_
        refine nw_then ?_
        refine cw_seq ?_
        refine cw_block ?_
        refine cw_seq ?_
        refine cw_region ?_
        refine rw_p 17 (.string (strOfNums l)) (fun _ => by kernel_rfl) (fun _ => by kernel_rfl) ?_
        refine rw_p 18 (.int .i64 ((i : Nat) : Int)) (fun _ => by kernel_rfl) (fun _ => by kernel_rfl) ?_
        have by4 : Byt (pushW ++ pr i) := (byt_app (byt_lit (by decide)) (byt_pr _))
        refine rw_call 19 30 #[.int .i64 ((i : Nat) : Int)] (fun _ => by kernel_rfl) (fun _ => by kernel_rfl) (R := RVl wl (.string (strOfNums (pushW ++ pr i)))) (wsized (by omega) wl) ?_
        rintro _ w5 ⟨rfl, hb6⟩
        replace hB := hB.go hb6
        replace ht := ht.go hb6
        refine rw_p 20 (.bool (decide (l = pushW ++ pr i))) (fun _ => by kernel_rfl) (fun _ => ol_eqS 9 _ _ _ l (pushW ++ pr i) rfl (by kernel_rfl) (by kernel_rfl) hb by4) ?_
        refine rw_nil ?_
        refine nw_then ?_
        cases hq7 : (decide (l = pushW ++ pr i)) with
        | true =>
          have dhq7 := of_decide_eq_true hq7
          refine cw_cond_t (fun _ => by kernel_rfl) ?_
          refine cw_seq ?_
          refine cw_region ?_
          refine rw_p 21 (.int .i64 ((i : Nat) : Int)) (fun _ => by kernel_rfl) (fun _ => by kernel_rfl) ?_
          refine rw_call 22 25 #[.int .i64 ((i : Nat) : Int)] (fun _ => by kernel_rfl) (fun _ => by kernel_rfl) (R := RVl w5 (.int .u8 ((31 + i : Nat) : Int))) (wpushof ⟨by omega, by omega⟩ w5) ?_
          rintro _ w8 ⟨rfl, hb9⟩
          replace hB := hB.go hb9
          replace ht := ht.go hb9
          have hz1 := hB.size
          refine rw_newS 23 #[.int .u8 ((31 + i : Nat) : Int)] 5 1 (fun _ => by kernel_rfl) (fun _ => by kernel_rfl) ?_
          intro w10 g11 hn12
          replace hB := hB.go hn12.below
          replace ht := ht.go hn12.below
          have ha13 : Ag w10 (some ⟨g11, 0, none⟩) 1 1 [((31 + i : Nat) : Int)] := row_ag (show Row g11 w10 [((31 + i : Nat) : Int)] from hn12.row) rfl (fun x hx => by simp at hx; omega) (by omega)
          have ho14 : OwnB w10 w8.heap.size (.slice (some ⟨g11, 0, none⟩) 1 1) [((31 + i : Nat) : Int)] := own_lit hn12 rfl
          refine rw_p 24 (.int .i64 ((i : Nat) : Int)) (fun _ => by kernel_rfl) (fun _ => by kernel_rfl) ?_
          refine rw_p 2 (.slice (some ⟨g11, 0, none⟩) 1 1) (fun _ => by kernel_rfl) (fun _ => by kernel_rfl) ?_
          refine rw_p 3 (.int .i64 ((i : Nat) : Int)) (fun _ => by kernel_rfl) (fun _ => by kernel_rfl) ?_
          refine rw_p 4 (.bool true) (fun _ => by kernel_rfl) (fun _ => by kernel_rfl) ?_
          refine rw_nil ?_
          refine nw_then ?_
          refine cw_ret ?_
          refine nw_ret_block ?_
          refine nw_ret_then ?_
          refine nw_ret_then ?_
          refine nw_ret_block ?_
          refine nw_ret_then ?_
          have hbg := bg_sized (l := l) (i := i) hi1 (by omega) dhq7
          rw [hbg]
          refine nw_ret_body (.tuple #[.slice (some ⟨g11, 0, none⟩) 1 1, .int .i64 ((i : Nat) : Int), .bool true]) (fun _ => by kernel_rfl) ?_
          exact ⟨_, rfl, _, rfl, ho14.mono hz1, hB⟩
        | false =>
          have dhq7 := of_decide_eq_false hq7
          refine cw_cond_f (fun _ => by kernel_rfl) ?_
          refine cw_skip ?_
          refine nw_block ?_
          refine nw_then ?_
          refine cw_region ?_
          refine rw_p 15 (.int .i64 ((i : Nat) : Int)) (fun _ => by kernel_rfl) (fun _ => by kernel_rfl) ?_
          refine rw_p 16 (.int .i64 ((i + 1 : Nat) : Int)) (fun _ => by kernel_rfl) (fun _ => ol_conv (v := .int .i64 (IntKind.i64.wrap (((i : Nat) : Int) + (1 : Int)))) (by kernel_rfl) (congrArg (Value.int .i64) (show IntKind.i64.wrap (((i : Nat) : Int) + (1 : Int)) = ((i + 1 : Nat) : Int) from (wrap64 (by omega) (by omega)).trans (by omega)))) ?_
          refine rw_p 5 (.int .i64 ((i + 1 : Nat) : Int)) (fun _ => by kernel_rfl) (fun _ => by kernel_rfl) ?_
          refine rw_nil ?_
          refine nw_round (X := Nat) (E := fun q => [(0, .string (strOfNums l)), (5, .int .i64 ((q : Nat) : Int))]) (R := fun q v => 1 ≤ q ∧ q ≤ 9 ∧ (∀ j, 1 ≤ j → j < q → l ≠ pushW ++ pr j) ∧ Bl w v) (μ := fun q => 9 - q) (x := i) (i + 1) (by exact ⟨fun _ => by kernel_rfl, ⟨fun _ => by kernel_rfl, trivial⟩⟩) ⟨by omega, by omega, fun j h1 h2 => ?_, hB⟩ (by show 9 - (i + 1) < 9 - i; omega)
          by_cases hji : j = i
          · subst hji; exact dhq7
          · exact hno j h1 (by omega)
      | false =>
        have dhq3 := of_decide_eq_false hq3
        refine cw_cond_f (fun _ => by kernel_rfl) ?_
        refine cw_exit ?_
        refine nw_exit_then ?_
        refine nw_exit_then ?_
        refine nw_exit_here ?_
        refine nw_then ?_
        refine cw_seq ?_
        refine cw_seq ?_
        refine cw_region ?_
        refine rw_p 25 (.agg tbc.toArray) (fun _ => by kernel_rfl) (fun _ => ol_tab _ rfl (by kernel_rfl) ht) ?_
        refine rw_p 26 (.int .i64 0) (fun _ => by kernel_rfl) (fun _ => by kernel_rfl) ?_
        refine rw_nil ?_
        refine nw_then ?_
        refine cw_block ?_
        have hns : ∀ j, 1 ≤ j → j < 9 → l ≠ pushW ++ pr j := fun j h1 h2 => hno j h1 (by omega)
        have hbg := bg_rest hnp hnb hns
        refine cw_loop (X := Nat) (fun q => [(0, .string (strOfNums l)), (25, .agg tbc.toArray), (26, .int .i64 ((q : Nat) : Int))]) (fun q v => q ≤ 29 ∧ (∀ j, j < q → l ≠ (rdAt j).wd) ∧ Bl w v) (fun q => 29 - q) 0 (by exact ⟨fun _ => by kernel_rfl, ⟨fun _ => by kernel_rfl, ⟨fun _ => by kernel_rfl, trivial⟩⟩⟩) ⟨by omega, fun j h => by omega, hB⟩ ?_
        rintro n wl2 ⟨hn9, hnt, hB⟩
        have ht := ht0.go hB
        obtain ⟨hs1, hs2, -, -, -, hs6, hs7⟩ := row_small n
        refine cw_seq ?_
        refine cw_region ?_
        refine rw_p 27 (.bool (decide (((n : Nat) : Int) < (29 : Int)))) (fun _ => by kernel_rfl) (fun _ => by kernel_rfl) ?_
        refine rw_nil ?_
        refine nw_then ?_
        refine cw_seq ?_
        cases hq15 : (decide (((n : Nat) : Int) < (29 : Int))) with
        | true =>
          have dhq15 := of_decide_eq_true hq15
          refine cw_cond_t (fun _ => by kernel_rfl) ?_
          refine cw_skip ?_
          refine nw_then ?_
          refine cw_seq ?_
          refine cw_block ?_
          refine cw_seq ?_
          refine cw_region ?_
          refine rw_p 28 (.agg (rowC (rdAt n)).toArray) (fun _ => by kernel_rfl) (fun _ => ol_ixT _ _ n rfl (by kernel_rfl) (by kernel_rfl) (by omega)) ?_
          refine rw_new 7 (#[.int .u8 0, .string (strOfNums []), .int .u8 0, .int .u8 0, .int .u8 0, .int .u8 0]) 67 (fun _ => by kernel_rfl) (fun _ => by kernel_rfl) ?_
          intro w16 g17 hn18
          have hzg17 : w.heap.size ≤ g17 := by have := hB.size; have := hn18.hg; omega
          have hr19 : Rw g17 w16 (#[.int .u8 0, .string (strOfNums []), .int .u8 0, .int .u8 0, .int .u8 0, .int .u8 0]) 67 := hn18.row
          refine rw_put g17 ((rowC (rdAt n)).toArray) (fun _ => by kernel_rfl) (fun _ => ol_store 67 _ _ _ _ _ 67 rfl (by kernel_rfl) (by kernel_rfl) hr19 (by kernel_rfl) rfl (by kernel_rfl)) ?_
          intro w20 hp21
          have hbg17 : Below wl2.heap.size wl2 w20 := hp21.below hn18.below (Nat.le_of_eq hn18.hg.symm) (by have := hn18.size; have := hn18.hg; omega)
          replace hB := hB.go hbg17
          replace ht := ht.go hbg17
          have hr22 : Rw g17 w20 ((rowC (rdAt n)).toArray) 67 := hr19.put hp21
          refine rw_nil ?_
          refine nw_then ?_
          refine cw_seq ?_
          refine cw_region ?_
          refine rw_p 29 (.string (strOfNums l)) (fun _ => by kernel_rfl) (fun _ => by kernel_rfl) ?_
          refine rw_p 30 (.pointer (some ⟨g17, 1, none⟩)) (fun _ => by kernel_rfl) (fun _ => by kernel_rfl) ?_
          refine rw_p 31 (.string (strOfNums (rdAt n).wd)) (fun _ => by kernel_rfl) (fun _ => ol_cell 9 _ ⟨g17, 1, none⟩ _ _ rfl (by kernel_rfl) (by rw [cell_of_row _ _ _ _ _ _ hr22]; rfl) Tryd.underlying9 rfl) ?_
          refine rw_p 32 (.bool (decide (l = (rdAt n).wd))) (fun _ => by kernel_rfl) (fun _ => ol_eqS 9 _ _ _ l ((rdAt n).wd) rfl (by kernel_rfl) (by kernel_rfl) hb hs6) ?_
          refine rw_nil ?_
          refine nw_then ?_
          cases hq23 : (decide (l = (rdAt n).wd)) with
          | true =>
            have dhq23 := of_decide_eq_true hq23
            refine cw_cond_t (fun _ => by kernel_rfl) ?_
            refine cw_seq ?_
            refine cw_draw (fun v => Rw g17 v ((rowC (rdAt n)).toArray) 67) (by kernel_rfl) (hr22) ?_
            replace hB := hB.go (Below.refl _ _).drew
            replace ht := ht.go (Below.refl _ _).drew
            replace hr22 := hr22.go (Below.refl _ _).drew
            refine dw_take 0 33 (.pointer (some ⟨g17, 0, none⟩)) rfl (by kernel_rfl) (fun _ _ _ h => h) (fun _ => by kernel_rfl) (fun v hv _ => by kernel_rfl) hr22 ?_
            refine dw_take 1 34 (.int .u8 (((rdAt n).op : Nat) : Int)) rfl (by kernel_rfl) (fun _ _ _ h => h) (fun _ => by kernel_rfl) (fun v hv _ => ol_cell 5 _ ⟨g17, 0, none⟩ _ _ rfl (by kernel_rfl) (by rw [cell_of_row _ _ _ _ _ _ hv]; rfl) Tryd.underlying5 rfl) hr22 ?_
            refine dw_take 3 36 (.pointer (some ⟨g17, 2, none⟩)) rfl (by kernel_rfl) (fun _ _ _ h => h) (fun _ => by kernel_rfl) (fun v hv _ => by kernel_rfl) hr22 ?_
            refine dw_take 4 37 (.int .u8 (((rdAt n).bh : Nat) : Int)) rfl (by kernel_rfl) (fun _ _ _ h => h) (fun _ => by kernel_rfl) (fun v hv _ => ol_cell 5 _ ⟨g17, 2, none⟩ _ _ rfl (by kernel_rfl) (by rw [cell_of_row _ _ _ _ _ _ hv]; rfl) Tryd.underlying5 rfl) hr22 ?_
            refine dw_take 5 38 (.int .i64 (((rdAt n).bh : Nat) : Int)) rfl (by kernel_rfl) (fun _ _ _ h => h) (fun _ => by kernel_rfl) (fun v hv => (fun _ => ol_cv 5 3 .u8 .i64 _ (((rdAt n).bh : Nat) : Int) (((rdAt n).bh : Nat) : Int) rfl Tryd.underlying5 Tryd.underlying3 (by kernel_rfl) (wrapI (by right; right; exact ⟨rfl, by omega, by omega⟩)))) hr22 ?_
            refine dw_ready [2] (by kernel_rfl) (by simp) ?_
            refine ar_newS 2 35 #[.int .u8 (((rdAt n).op : Nat) : Int)] 5 1 rfl (fun _ => by kernel_rfl) (fun _ => by kernel_rfl) (fun w' g h9 => hr22.go h9.below) ?_ ar_nil
            intro w24 g25 hn26
            have hz1 := hB.size
            replace hB := hB.go hn26.below
            replace ht := ht.go hn26.below
            replace hr22 := hr22.go hn26.below
            have hown : OwnB w24 w.heap.size (.slice (some ⟨g25, 0, none⟩) 1 1) [(((rdAt n).op : Nat) : Int)] := (own_lit (n := 1) (xs := [(((rdAt n).op : Nat) : Int)]) hn26 rfl).mono hz1
            refine dw_take 6 2 (.slice (some ⟨g25, 0, none⟩) 1 1) rfl (by kernel_rfl) (fun _ _ _ h => h) (fun _ => by kernel_rfl) (fun v hv _ => by kernel_rfl) hr22 ?_
            refine dw_take 7 3 (.int .i64 (((rdAt n).bh : Nat) : Int)) rfl (by kernel_rfl) (fun _ _ _ h => h) (fun _ => by kernel_rfl) (fun v hv _ => by kernel_rfl) hr22 ?_
            refine dw_take 8 4 (.bool true) rfl (by kernel_rfl) (fun _ _ _ h => h) (fun _ => by kernel_rfl) (fun v hv _ => by kernel_rfl) hr22 ?_
            refine dw_done (by kernel_rfl) ?_
            refine nw_then ?_
            refine cw_ret ?_
            refine nw_ret_block ?_
            refine nw_ret_then ?_
            refine nw_ret_then ?_
            refine nw_ret_block ?_
            refine nw_ret_then ?_
            rw [wd_at (by omega) hnt dhq23, Option.map_some] at hbg
            rw [hbg]
            refine nw_ret_body (.tuple #[.slice (some ⟨g25, 0, none⟩) 1 1, .int .i64 (((rdAt n).bh : Nat) : Int), .bool true]) (fun _ => by kernel_rfl) ?_
            exact ⟨_, rfl, _, rfl, hown, hB⟩
          | false =>
            have dhq23 := of_decide_eq_false hq23
            refine cw_cond_f (fun _ => by kernel_rfl) ?_
            refine cw_skip ?_
            refine nw_block ?_
            refine nw_then ?_
            refine cw_region ?_
            refine rw_p 39 (.int .i64 ((n + 1 : Nat) : Int)) (fun _ => by kernel_rfl) (fun _ => ol_conv (v := .int .i64 (IntKind.i64.wrap (((n : Nat) : Int) + (1 : Int)))) (by kernel_rfl) (congrArg (Value.int .i64) (show IntKind.i64.wrap (((n : Nat) : Int) + (1 : Int)) = ((n + 1 : Nat) : Int) from (wrap64 (by omega) (by omega)).trans (by omega)))) ?_
            refine rw_p 26 (.int .i64 ((n + 1 : Nat) : Int)) (fun _ => by kernel_rfl) (fun _ => by kernel_rfl) ?_
            refine rw_nil ?_
            refine nw_round (X := Nat) (E := fun q => [(0, .string (strOfNums l)), (25, .agg tbc.toArray), (26, .int .i64 ((q : Nat) : Int))]) (R := fun q v => q ≤ 29 ∧ (∀ j, j < q → l ≠ (rdAt j).wd) ∧ Bl w v) (μ := fun q => 29 - q) (x := n) (n + 1) (by exact ⟨fun _ => by kernel_rfl, ⟨fun _ => by kernel_rfl, ⟨fun _ => by kernel_rfl, trivial⟩⟩⟩) ⟨by omega, fun j h => ?_, hB⟩ (by show 29 - (n + 1) < 29 - n; omega)
            by_cases hji : j = n
            · subst hji; exact dhq23
            · exact hnt j (by omega)
        | false =>
          have dhq15 := of_decide_eq_false hq15
          refine cw_cond_f (fun _ => by kernel_rfl) ?_
          refine cw_exit ?_
          refine nw_exit_then ?_
          refine nw_exit_then ?_
          refine nw_exit_here ?_
          refine nw_then ?_
          refine cw_seq ?_
          refine cw_region ?_
          refine rw_p 2 (.slice none 0 0) (fun _ => by kernel_rfl) (fun _ => by kernel_rfl) ?_
          refine rw_p 3 (.int .i64 0) (fun _ => by kernel_rfl) (fun _ => by kernel_rfl) ?_
          refine rw_p 4 (.bool false) (fun _ => by kernel_rfl) (fun _ => by kernel_rfl) ?_
          refine rw_nil ?_
          refine nw_then ?_
          refine cw_ret ?_
          rw [wd_no (fun j hj => hnt j (by omega)), Option.map_none] at hbg
          rw [hbg]
          refine nw_ret_body (.tuple #[.slice none 0 0, .int .i64 0, .bool false]) (fun _ => by kernel_rfl) ?_
          exact ⟨_, rfl, _, rfl, ownB_nil _ _, hB⟩
set_option maxHeartbeats 2000000 in
theorem wstmt_no {g : Nat} {l rest : List Int} {p pl : Nat} (hbg : bgP l = none) (w : World) (hr : Rw g w (txC rest p) 38) (hbl : Byt l) (hb : Byt rest) (hp : p + rest.length ≤ 9223372036854775000) (ht : Tb w) (hgt : 0 ≠ g) : Calls Tryd.prog 13 #[.pointer (some ⟨g, 0, none⟩), .string (strOfNums l), .int .i64 ((pl : Nat) : Int)] w fun e w' => ∃ v, e = .returned v ∧ RSt g w (stP l rest p pl) v w' := by
  have hglt := hr.lt
  have hT : Touch g w w := Touch.refl _ _
  refine cw_enter Tryd.func13 rfl 64 rfl ?_
  show CW _ _ _ _ _ _ _ [(0, .pointer (some ⟨g, 0, none⟩)), (1, .string (strOfNums l)), (2, .int .i64 ((pl : Nat) : Int))] _
  refine cw_seq ?_
  refine cw_region ?_
  refine rw_p 6 (.slice none 0 0) (fun _ => by kernel_rfl) (fun _ => by kernel_rfl) ?_
  refine rw_p 7 (.int .i64 0) (fun _ => by kernel_rfl) (fun _ => by kernel_rfl) ?_
  refine rw_p 8 (.int .i64 0) (fun _ => by kernel_rfl) (fun _ => by kernel_rfl) ?_
  refine rw_nil ?_
  refine nw_then ?_
  refine cw_seq ?_
  refine cw_region ?_
  refine rw_p 17 (.string (strOfNums l)) (fun _ => by kernel_rfl) (fun _ => by kernel_rfl) ?_
  refine rw_call 18 22 #[.string (strOfNums l)] (fun _ => by kernel_rfl) (fun _ => by kernel_rfl) (R := RBg w (none : Option (List Int × Nat))) (by have := wbegun hbl w ht; rw [hbg] at this; exact this) ?_
  rintro _ w1 ⟨hv, rfl, hh0, hb2⟩
  replace hT := hT.trans (Touch.of_below hb2)
  replace hr := hr.go hb2
  replace ht := ht.go hb2
  have hh := hh0
  refine rw_p 16 (.tuple #[hv, .int .i64 ((0 : Nat) : Int), .bool false]) (fun _ => by kernel_rfl) (fun _ => by kernel_rfl) ?_
  refine rw_p 19 (hv) (fun _ => by kernel_rfl) (fun _ => by kernel_rfl) ?_
  refine rw_p 20 (.int .i64 ((0 : Nat) : Int)) (fun _ => by kernel_rfl) (fun _ => by kernel_rfl) ?_
  refine rw_p 21 (.bool false) (fun _ => by kernel_rfl) (fun _ => by kernel_rfl) ?_
  refine rw_p 9 (hv) (fun _ => by kernel_rfl) (fun _ => by kernel_rfl) ?_
  refine rw_p 10 (.int .i64 ((0 : Nat) : Int)) (fun _ => by kernel_rfl) (fun _ => by kernel_rfl) ?_
  refine rw_p 11 (.bool false) (fun _ => by kernel_rfl) (fun _ => by kernel_rfl) ?_
  refine rw_nil ?_
  refine nw_then ?_
  refine cw_seq ?_
  refine cw_seq ?_
  refine cw_region ?_
  refine rw_p 22 (.bool false) (fun _ => by kernel_rfl) (fun _ => by kernel_rfl) ?_
  refine rw_p 23 (.bool true) (fun _ => by kernel_rfl) (fun _ => by kernel_rfl) ?_
  refine rw_nil ?_
  refine nw_then ?_
  refine cw_cond_t (fun _ => by kernel_rfl) ?_
  refine cw_seq ?_
  refine cw_region ?_
  refine rw_p 24 (.int .i64 ((pl : Nat) : Int)) (fun _ => by kernel_rfl) (fun _ => by kernel_rfl) ?_
  refine rw_p 6 (.slice none 0 0) (fun _ => by kernel_rfl) (fun _ => by kernel_rfl) ?_
  refine rw_p 7 (.int .i64 ((pl : Nat) : Int)) (fun _ => by kernel_rfl) (fun _ => by kernel_rfl) ?_
  refine rw_p 8 (.int .i64 140) (fun _ => by kernel_rfl) (fun _ => by kernel_rfl) ?_
  refine rw_nil ?_
  refine nw_then ?_
  refine cw_ret ?_
  refine nw_ret_then ?_
  rw [st_no hbg]
  refine nw_ret_body (.tuple #[.slice none 0 0, .int .i64 ((pl : Nat) : Int), .int .i64 140]) (fun _ => by kernel_rfl) ?_
  exact ⟨_, rfl, _, _, _, rfl, ag_nil _, hr, hT⟩
set_option maxHeartbeats 2000000 in
theorem wstmt_some {g : Nat} {l rest : List Int} {p pl : Nat} {hd : List Int} {sz : Nat} (hbg : bgP l = some (hd, sz)) (w : World) (hr : Rw g w (txC rest p) 38) (hbl : Byt l) (hb : Byt rest) (hp : p + rest.length ≤ 9223372036854775000) (ht : Tb w) (hgt : 0 ≠ g) : Calls Tryd.prog 13 #[.pointer (some ⟨g, 0, none⟩), .string (strOfNums l), .int .i64 ((pl : Nat) : Int)] w fun e w' => ∃ v, e = .returned v ∧ RSt g w (stP l rest p pl) v w' := by
  have hglt := hr.lt
  obtain ⟨hsz8, hbh, hdl, -⟩ := bg_small hbg
  obtain ⟨m, ok, hps⟩ : ∃ m ok, ps (nxW rest) = (m, ok) := ⟨_, _, rfl⟩
  have hm : m < W64 := by have := ps_lt (nxW rest); rw [hps] at this; exact this
  have hso := szo_bd hm
  have hnl := nxW_len rest
  have hT : Touch g w w := Touch.refl _ _
  refine cw_enter Tryd.func13 rfl 64 rfl ?_
  show CW _ _ _ _ _ _ _ [(0, .pointer (some ⟨g, 0, none⟩)), (1, .string (strOfNums l)), (2, .int .i64 ((pl : Nat) : Int))] _
  refine cw_seq ?_
  refine cw_region ?_
  refine rw_p 6 (.slice none 0 0) (fun _ => by kernel_rfl) (fun _ => by kernel_rfl) ?_
  refine rw_p 7 (.int .i64 0) (fun _ => by kernel_rfl) (fun _ => by kernel_rfl) ?_
  refine rw_p 8 (.int .i64 0) (fun _ => by kernel_rfl) (fun _ => by kernel_rfl) ?_
  refine rw_nil ?_
  refine nw_then ?_
  refine cw_seq ?_
  refine cw_region ?_
  refine rw_p 17 (.string (strOfNums l)) (fun _ => by kernel_rfl) (fun _ => by kernel_rfl) ?_
  refine rw_call 18 22 #[.string (strOfNums l)] (fun _ => by kernel_rfl) (fun _ => by kernel_rfl) (R := RBg w (some (hd, sz))) (by have := wbegun hbl w ht; rw [hbg] at this; exact this) ?_
  rintro _ w1 ⟨hv, rfl, hh0, hb2⟩
  replace hT := hT.trans (Touch.of_below hb2)
  replace hr := hr.go hb2
  replace ht := ht.go hb2
  have hh := hh0
  refine rw_p 16 (.tuple #[hv, .int .i64 ((sz : Nat) : Int), .bool true]) (fun _ => by kernel_rfl) (fun _ => by kernel_rfl) ?_
  refine rw_p 19 (hv) (fun _ => by kernel_rfl) (fun _ => by kernel_rfl) ?_
  refine rw_p 20 (.int .i64 ((sz : Nat) : Int)) (fun _ => by kernel_rfl) (fun _ => by kernel_rfl) ?_
  refine rw_p 21 (.bool true) (fun _ => by kernel_rfl) (fun _ => by kernel_rfl) ?_
  refine rw_p 9 (hv) (fun _ => by kernel_rfl) (fun _ => by kernel_rfl) ?_
  refine rw_p 10 (.int .i64 ((sz : Nat) : Int)) (fun _ => by kernel_rfl) (fun _ => by kernel_rfl) ?_
  refine rw_p 11 (.bool true) (fun _ => by kernel_rfl) (fun _ => by kernel_rfl) ?_
  refine rw_nil ?_
  refine nw_then ?_
  refine cw_seq ?_
  refine cw_seq ?_
  refine cw_region ?_
  refine rw_p 22 (.bool true) (fun _ => by kernel_rfl) (fun _ => by kernel_rfl) ?_
  refine rw_p 23 (.bool false) (fun _ => by kernel_rfl) (fun _ => by kernel_rfl) ?_
  refine rw_nil ?_
  refine nw_then ?_
  refine cw_cond_f (fun _ => by kernel_rfl) ?_
  refine cw_skip ?_
  refine nw_then ?_
  refine cw_seq ?_
  refine cw_seq ?_
  refine cw_region ?_
  refine rw_p 25 (.int .i64 ((sz : Nat) : Int)) (fun _ => by kernel_rfl) (fun _ => by kernel_rfl) ?_
  refine rw_p 26 (.bool (((sz : Nat) : Int) == (0 : Int))) (fun _ => by kernel_rfl) (fun _ => by kernel_rfl) ?_
  refine rw_nil ?_
  refine nw_then ?_
  cases hq3 : (((sz : Nat) : Int) == (0 : Int)) with
  | true =>
    have dhq3 := eq_of_beq hq3
    refine cw_cond_t (fun _ => by kernel_rfl) ?_
    refine cw_seq ?_
    refine cw_region ?_
    refine rw_p 27 (hv) (fun _ => by kernel_rfl) (fun _ => by kernel_rfl) ?_
    refine rw_p 6 (hv) (fun _ => by kernel_rfl) (fun _ => by kernel_rfl) ?_
    refine rw_p 7 (.int .i64 0) (fun _ => by kernel_rfl) (fun _ => by kernel_rfl) ?_
    refine rw_p 8 (.int .i64 0) (fun _ => by kernel_rfl) (fun _ => by kernel_rfl) ?_
    refine rw_nil ?_
    refine nw_then ?_
    refine cw_ret ?_
    refine nw_ret_then ?_
    have h0 : sz = 0 := by omega
    rw [st_0 hbg h0]
    obtain ⟨x9, c9, rfl, ha9⟩ := OwnB.ag hh hbh
    refine nw_ret_body (.tuple #[.slice x9 hd.length c9, .int .i64 0, .int .i64 0]) (fun _ => by kernel_rfl) ?_
    exact ⟨_, rfl, _, _, _, rfl, ha9, hr, hT⟩
  | false =>
    have dhq3 := ne_of_beq_false hq3
    refine cw_cond_f (fun _ => by kernel_rfl) ?_
    refine cw_skip ?_
    refine nw_then ?_
    refine cw_seq ?_
    refine cw_region ?_
    refine rw_p 29 (.pointer (some ⟨g, 0, none⟩)) (fun _ => by kernel_rfl) (fun _ => by kernel_rfl) ?_
    refine rw_call 30 12 #[.pointer (some ⟨g, 0, none⟩)] (fun _ => by kernel_rfl) (fun _ => by kernel_rfl) (R := RTx g w1 (nxR rest) (p + rn rest true + (nxW rest).length) (.tuple #[.string (strOfNums (nxW rest)), .int .i64 ((p + rn rest true : Nat) : Int)])) (wnext w1 hr hb hp) ?_
    rintro _ w4 ⟨rfl, hr5, hk6⟩
    replace hh := hh.touch hk6 hglt
    replace hT := hT.trans hk6
    clear hr; have hr := hr5
    replace ht := ht.tou hk6 hgt
    refine rw_p 28 (.tuple #[.string (strOfNums (nxW rest)), .int .i64 ((p + rn rest true : Nat) : Int)]) (fun _ => by kernel_rfl) (fun _ => by kernel_rfl) ?_
    refine rw_p 31 (.string (strOfNums (nxW rest))) (fun _ => by kernel_rfl) (fun _ => by kernel_rfl) ?_
    refine rw_p 32 (.int .i64 ((p + rn rest true : Nat) : Int)) (fun _ => by kernel_rfl) (fun _ => by kernel_rfl) ?_
    refine rw_p 12 (.string (strOfNums (nxW rest))) (fun _ => by kernel_rfl) (fun _ => by kernel_rfl) ?_
    refine rw_p 13 (.int .i64 ((p + rn rest true : Nat) : Int)) (fun _ => by kernel_rfl) (fun _ => by kernel_rfl) ?_
    refine rw_nil ?_
    refine nw_then ?_
    refine cw_seq ?_
    refine cw_region ?_
    refine rw_p 34 (.string (strOfNums (nxW rest))) (fun _ => by kernel_rfl) (fun _ => by kernel_rfl) ?_
    refine rw_call 35 23 #[.string (strOfNums (nxW rest))] (fun _ => by kernel_rfl) (fun _ => by kernel_rfl) (R := RVl w4 (.tuple #[.int .u64 ((m : Nat) : Int), .bool ok])) (by have := wparse (l := nxW rest) (byt_nx hb).2.1 (by omega) w4; rw [hps] at this; exact this) ?_
    rintro _ w7 ⟨rfl, hb8⟩
    replace hT := hT.trans (Touch.of_below hb8)
    replace hr := hr.go hb8
    replace ht := ht.go hb8
    replace hh := hh.go hb8
    refine rw_p 33 (.tuple #[.int .u64 ((m : Nat) : Int), .bool ok]) (fun _ => by kernel_rfl) (fun _ => by kernel_rfl) ?_
    refine rw_p 36 (.int .u64 ((m : Nat) : Int)) (fun _ => by kernel_rfl) (fun _ => by kernel_rfl) ?_
    refine rw_p 37 (.bool ok) (fun _ => by kernel_rfl) (fun _ => by kernel_rfl) ?_
    refine rw_p 14 (.int .u64 ((m : Nat) : Int)) (fun _ => by kernel_rfl) (fun _ => by kernel_rfl) ?_
    refine rw_p 11 (.bool ok) (fun _ => by kernel_rfl) (fun _ => by kernel_rfl) ?_
    refine rw_nil ?_
    refine nw_then ?_
    refine cw_seq ?_
    refine cw_seq ?_
    refine cw_region ?_
    refine rw_p 38 (.bool ok) (fun _ => by kernel_rfl) (fun _ => by kernel_rfl) ?_
    refine rw_p 39 (.bool (!ok)) (fun _ => by kernel_rfl) (fun _ => by kernel_rfl) ?_
    refine rw_p 40 (.bool (!ok)) (fun _ => by kernel_rfl) (fun _ => by kernel_rfl) ?_
    cases hq9 : (!ok) with
    | true =>
      refine rw_off 41 (fun _ => by kernel_rfl) ?_
      refine rw_off 42 (fun _ => by kernel_rfl) ?_
      refine rw_off 43 (fun _ => by kernel_rfl) ?_
      refine rw_off 44 (fun _ => by kernel_rfl) ?_
      refine rw_p 45 (.bool true) (fun _ => by kernel_rfl) (fun _ => by kernel_rfl) ?_
      refine rw_nil ?_
      refine nw_then ?_
      refine cw_cond_t (fun _ => by kernel_rfl) ?_
      refine cw_seq ?_
      refine cw_region ?_
      refine rw_p 46 (.int .i64 ((p + rn rest true : Nat) : Int)) (fun _ => by kernel_rfl) (fun _ => by kernel_rfl) ?_
      refine rw_p 6 (.slice none 0 0) (fun _ => by kernel_rfl) (fun _ => by kernel_rfl) ?_
      refine rw_p 7 (.int .i64 ((p + rn rest true : Nat) : Int)) (fun _ => by kernel_rfl) (fun _ => by kernel_rfl) ?_
      refine rw_p 8 (.int .i64 141) (fun _ => by kernel_rfl) (fun _ => by kernel_rfl) ?_
      refine rw_nil ?_
      refine nw_then ?_
      refine cw_ret ?_
      refine nw_ret_then ?_
      have h0 : sz ≠ 0 := by omega
      have hbad : (ps (nxW rest)).2 = false ∨ sz < szo (ps (nxW rest)).1 := by rw [hps]; left; simpa using hq9
      rw [st_bad hbg h0 hbad]
      refine nw_ret_body (.tuple #[.slice none 0 0, .int .i64 ((p + rn rest true : Nat) : Int), .int .i64 141]) (fun _ => by kernel_rfl) ?_
      exact ⟨_, rfl, _, _, _, rfl, ag_nil _, hr, hT⟩
    | false =>
      refine rw_p 41 (.int .u64 ((m : Nat) : Int)) (fun _ => by kernel_rfl) (fun _ => by kernel_rfl) ?_
      refine rw_call 42 24 #[.int .u64 ((m : Nat) : Int)] (fun _ => by kernel_rfl) (fun _ => by kernel_rfl) (R := RVl w7 (.int .i64 ((szo m : Nat) : Int))) (wsize hm w7) ?_
      rintro _ w10 ⟨rfl, hb11⟩
      replace hT := hT.trans (Touch.of_below hb11)
      replace hr := hr.go hb11
      replace ht := ht.go hb11
      replace hh := hh.go hb11
      refine rw_p 43 (.int .i64 ((sz : Nat) : Int)) (fun _ => by kernel_rfl) (fun _ => by kernel_rfl) ?_
      refine rw_p 44 (.bool (decide (((szo m : Nat) : Int) > ((sz : Nat) : Int)))) (fun _ => by kernel_rfl) (fun _ => by kernel_rfl) ?_
      refine rw_p 45 (.bool (decide (((szo m : Nat) : Int) > ((sz : Nat) : Int)))) (fun _ => by kernel_rfl) (fun _ => by kernel_rfl) ?_
      refine rw_nil ?_
      refine nw_then ?_
      cases hq12 : (decide (((szo m : Nat) : Int) > ((sz : Nat) : Int))) with
      | true =>
        have dhq12 := of_decide_eq_true hq12
        refine cw_cond_t (fun _ => by kernel_rfl) ?_
        refine cw_seq ?_
        refine cw_region ?_
        refine rw_p 46 (.int .i64 ((p + rn rest true : Nat) : Int)) (fun _ => by kernel_rfl) (fun _ => by kernel_rfl) ?_
        refine rw_p 6 (.slice none 0 0) (fun _ => by kernel_rfl) (fun _ => by kernel_rfl) ?_
        refine rw_p 7 (.int .i64 ((p + rn rest true : Nat) : Int)) (fun _ => by kernel_rfl) (fun _ => by kernel_rfl) ?_
        refine rw_p 8 (.int .i64 141) (fun _ => by kernel_rfl) (fun _ => by kernel_rfl) ?_
        refine rw_nil ?_
        refine nw_then ?_
        refine cw_ret ?_
        refine nw_ret_then ?_
        have h0 : sz ≠ 0 := by omega
        have hbad : (ps (nxW rest)).2 = false ∨ sz < szo (ps (nxW rest)).1 := by rw [hps]; right; show sz < szo m; omega
        rw [st_bad hbg h0 hbad]
        refine nw_ret_body (.tuple #[.slice none 0 0, .int .i64 ((p + rn rest true : Nat) : Int), .int .i64 141]) (fun _ => by kernel_rfl) ?_
        exact ⟨_, rfl, _, _, _, rfl, ag_nil _, hr, hT⟩
      | false =>
        have dhq12 := of_decide_eq_false hq12
        refine cw_cond_f (fun _ => by kernel_rfl) ?_
        refine cw_skip ?_
        refine nw_then ?_
        refine cw_seq ?_
        refine cw_seq ?_
        refine cw_region ?_
        refine rw_p 47 (.string (strOfNums l)) (fun _ => by kernel_rfl) (fun _ => by kernel_rfl) ?_
        refine rw_p 48 (.bool (decide (l = pushW))) (fun _ => by kernel_rfl) (fun _ => ol_eqS 9 _ _ _ l pushW rfl (by kernel_rfl) (by kernel_rfl) hbl (byt_lit (by decide))) ?_
        refine rw_nil ?_
        refine nw_then ?_
        cases hq13 : (decide (l = pushW)) with
        | true =>
          have dhq13 := of_decide_eq_true hq13
          refine cw_cond_t (fun _ => by kernel_rfl) ?_
          refine cw_seq ?_
          refine cw_region ?_
          refine rw_p 49 (.int .u64 ((m : Nat) : Int)) (fun _ => by kernel_rfl) (fun _ => by kernel_rfl) ?_
          refine rw_call 50 24 #[.int .u64 ((m : Nat) : Int)] (fun _ => by kernel_rfl) (fun _ => by kernel_rfl) (R := RVl w10 (.int .i64 ((szo m : Nat) : Int))) (wsize hm w10) ?_
          rintro _ w14 ⟨rfl, hb15⟩
          replace hT := hT.trans (Touch.of_below hb15)
          replace hr := hr.go hb15
          replace ht := ht.go hb15
          replace hh := hh.go hb15
          refine rw_p 10 (.int .i64 ((szo m : Nat) : Int)) (fun _ => by kernel_rfl) (fun _ => by kernel_rfl) ?_
          refine rw_nil ?_
          refine nw_then ?_
          refine cw_region ?_
          refine rw_p 51 (.int .i64 ((szo m : Nat) : Int)) (fun _ => by kernel_rfl) (fun _ => by kernel_rfl) ?_
          refine rw_call 52 25 #[.int .i64 ((szo m : Nat) : Int)] (fun _ => by kernel_rfl) (fun _ => by kernel_rfl) (R := RVl w14 (.int .u8 ((31 + szo m : Nat) : Int))) (wpushof hso w14) ?_
          rintro _ w16 ⟨rfl, hb17⟩
          replace hT := hT.trans (Touch.of_below hb17)
          replace hr := hr.go hb17
          replace ht := ht.go hb17
          replace hh := hh.go hb17
          have hz1 := hT.size
          refine rw_newS 53 #[.int .u8 ((31 + szo m : Nat) : Int)] 5 1 (fun _ => by kernel_rfl) (fun _ => by kernel_rfl) ?_
          intro w18 g19 hn20
          replace hT := hT.trans (Touch.of_below hn20.below)
          replace hr := hr.go hn20.below
          replace ht := ht.go hn20.below
          have ha21 : Ag w18 (some ⟨g19, 0, none⟩) 1 1 [((31 + szo m : Nat) : Int)] := row_ag (show Row g19 w18 [((31 + szo m : Nat) : Int)] from hn20.row) rfl (fun x hx => by simp at hx; omega) (by omega)
          have ho22 : OwnB w18 w16.heap.size (.slice (some ⟨g19, 0, none⟩) 1 1) [((31 + szo m : Nat) : Int)] := own_lit hn20 rfl
          refine rw_p 9 (.slice (some ⟨g19, 0, none⟩) 1 1) (fun _ => by kernel_rfl) (fun _ => by kernel_rfl) ?_
          refine rw_nil ?_
          refine nw_then ?_
          refine cw_seq ?_
          refine cw_region ?_
          refine rw_p 54 (.int .u64 ((m : Nat) : Int)) (fun _ => by kernel_rfl) (fun _ => by kernel_rfl) ?_
          refine rw_call 55 26 #[.int .u64 ((m : Nat) : Int)] (fun _ => by kernel_rfl) (fun _ => by kernel_rfl) (R := RSl w18 (bek 8 m)) (wkey hm w18) ?_
          rintro _ w26 ⟨⟨a23, n24, c25, rfl, ha27⟩, hb28⟩
          replace hT := hT.trans (Touch.of_below hb28)
          replace hr := hr.go hb28
          replace ht := ht.go hb28
          replace ha21 := ha21.go hb28
          replace ho22 := ho22.go hb28
          obtain rfl : 8 = n24 := (bek_len 8 m).symm.trans ha27.l
          refine rw_p 15 (.slice a23 8 c25) (fun _ => by kernel_rfl) (fun _ => by kernel_rfl) ?_
          refine rw_nil ?_
          refine nw_then ?_
          refine cw_seq ?_
          refine cw_region ?_
          refine rw_p 56 (.slice (some ⟨g19, 0, none⟩) 1 1) (fun _ => by kernel_rfl) (fun _ => by kernel_rfl) ?_
          refine rw_p 57 (.slice a23 8 c25) (fun _ => by kernel_rfl) (fun _ => by kernel_rfl) ?_
          refine rw_p 58 (.slice a23 8 c25) (fun _ => by kernel_rfl) (fun _ => by kernel_rfl) ?_
          refine rw_p 59 (.int .i64 ((8 : Nat) : Int)) (fun _ => by kernel_rfl) (fun _ => by kernel_rfl) ?_
          refine rw_p 60 (.int .i64 ((szo m : Nat) : Int)) (fun _ => by kernel_rfl) (fun _ => by kernel_rfl) ?_
          refine rw_p 61 (.int .i64 ((8 - (szo m) : Nat) : Int)) (fun _ => by kernel_rfl) (fun _ => ol_conv (v := .int .i64 (IntKind.i64.wrap (((8 : Nat) : Int) - ((szo m : Nat) : Int)))) (by kernel_rfl) (congrArg (Value.int .i64) (show IntKind.i64.wrap (((8 : Nat) : Int) - ((szo m : Nat) : Int)) = ((8 - (szo m) : Nat) : Int) from (wrap64 (by omega) (by omega)).trans (by omega)))) ?_
          have ha29 := ha27.from (k := 8 - (szo m)) (by omega)
          refine rw_p 62 (.slice (cutA a23 (8 - (szo m)) c25) (8 - (8 - (szo m))) (c25 - (8 - (szo m)))) (fun _ => by kernel_rfl) (fun _ => ol_from _ _ a23 8 c25 (8 - (szo m)) rfl (by kernel_rfl) (by kernel_rfl) (by omega) ha27.cap) ?_
          obtain ⟨v30, w31, hr32, ho33, hb34⟩ := app_run (ho22.mono hz1) ha29 (by simp; omega) hT.size
          have hby : Byt (([((31 + szo m : Nat) : Int)]) ++ ((bek 8 m).drop (8 - (szo m)))) := byt_app (fun x hx => by simp at hx; omega) ha29.b
          obtain ⟨x35, c36, rfl, ha37⟩ := OwnB.ag ho33 hby
          refine rw_v 63 (.slice x35 (([((31 + szo m : Nat) : Int)]) ++ ((bek 8 m).drop (8 - (szo m)))).length c36) (fun _ => by kernel_rfl) (fun _ => ol_app hr32 _ _ rfl (by kernel_rfl) (by kernel_rfl)) ?_
          replace hT := touch_app hT hb34 (Nat.le_refl _)
          replace hr := hr.base hb34 hglt
          refine rw_p 6 (.slice x35 (([((31 + szo m : Nat) : Int)]) ++ ((bek 8 m).drop (8 - (szo m)))).length c36) (fun _ => by kernel_rfl) (fun _ => by kernel_rfl) ?_
          refine rw_p 7 (.int .i64 0) (fun _ => by kernel_rfl) (fun _ => by kernel_rfl) ?_
          refine rw_p 8 (.int .i64 0) (fun _ => by kernel_rfl) (fun _ => by kernel_rfl) ?_
          refine rw_nil ?_
          refine nw_then ?_
          refine cw_ret ?_
          have h0 : sz ≠ 0 := by omega
          have hok : ok = true := by simpa using hq9
          subst hok
          rw [st_push hbg h0 hps (by omega) dhq13]
          refine nw_ret_body (.tuple #[.slice x35 (([((31 + szo m : Nat) : Int)]) ++ ((bek 8 m).drop (8 - (szo m)))).length c36, .int .i64 0, .int .i64 0]) (fun _ => by kernel_rfl) ?_
          have ha2 : Ag w31 x35 (([((31 + szo m : Nat) : Int)]) ++ ((bek 8 m).drop (8 - (szo m)))).length c36 (((31 + szo m : Nat) : Int) :: bek (szo m) m) := by rw [← bek8 (k := szo m) (n := m) (by omega)]; exact ha37
          exact ⟨_, rfl, _, _, _, rfl, ha2, hr, hT⟩
        | false =>
          have dhq13 := of_decide_eq_false hq13
          refine cw_cond_f (fun _ => by kernel_rfl) ?_
          refine cw_skip ?_
          refine nw_then ?_
          refine cw_seq ?_
          refine cw_region ?_
          refine rw_p 54 (.int .u64 ((m : Nat) : Int)) (fun _ => by kernel_rfl) (fun _ => by kernel_rfl) ?_
          refine rw_call 55 26 #[.int .u64 ((m : Nat) : Int)] (fun _ => by kernel_rfl) (fun _ => by kernel_rfl) (R := RSl w10 (bek 8 m)) (wkey hm w10) ?_
          rintro _ w41 ⟨⟨a38, n39, c40, rfl, ha42⟩, hb43⟩
          replace hT := hT.trans (Touch.of_below hb43)
          replace hr := hr.go hb43
          replace ht := ht.go hb43
          replace hh := hh.go hb43
          obtain rfl : 8 = n39 := (bek_len 8 m).symm.trans ha42.l
          refine rw_p 15 (.slice a38 8 c40) (fun _ => by kernel_rfl) (fun _ => by kernel_rfl) ?_
          refine rw_nil ?_
          refine nw_then ?_
          refine cw_seq ?_
          refine cw_region ?_
          refine rw_p 56 (hv) (fun _ => by kernel_rfl) (fun _ => by kernel_rfl) ?_
          refine rw_p 57 (.slice a38 8 c40) (fun _ => by kernel_rfl) (fun _ => by kernel_rfl) ?_
          refine rw_p 58 (.slice a38 8 c40) (fun _ => by kernel_rfl) (fun _ => by kernel_rfl) ?_
          refine rw_p 59 (.int .i64 ((8 : Nat) : Int)) (fun _ => by kernel_rfl) (fun _ => by kernel_rfl) ?_
          refine rw_p 60 (.int .i64 ((sz : Nat) : Int)) (fun _ => by kernel_rfl) (fun _ => by kernel_rfl) ?_
          refine rw_p 61 (.int .i64 ((8 - sz : Nat) : Int)) (fun _ => by kernel_rfl) (fun _ => ol_conv (v := .int .i64 (IntKind.i64.wrap (((8 : Nat) : Int) - ((sz : Nat) : Int)))) (by kernel_rfl) (congrArg (Value.int .i64) (show IntKind.i64.wrap (((8 : Nat) : Int) - ((sz : Nat) : Int)) = ((8 - sz : Nat) : Int) from (wrap64 (by omega) (by omega)).trans (by omega)))) ?_
          have ha44 := ha42.from (k := 8 - sz) (by omega)
          refine rw_p 62 (.slice (cutA a38 (8 - sz) c40) (8 - (8 - sz)) (c40 - (8 - sz))) (fun _ => by kernel_rfl) (fun _ => ol_from _ _ a38 8 c40 (8 - sz) rfl (by kernel_rfl) (by kernel_rfl) (by omega) ha42.cap) ?_
          obtain ⟨v45, w46, hr47, ho48, hb49⟩ := app_run hh ha44 (by simp; omega) hT.size
          have hby : Byt (hd ++ ((bek 8 m).drop (8 - sz))) := byt_app hbh ha44.b
          obtain ⟨x50, c51, rfl, ha52⟩ := OwnB.ag ho48 hby
          refine rw_v 63 (.slice x50 (hd ++ ((bek 8 m).drop (8 - sz))).length c51) (fun _ => by kernel_rfl) (fun _ => ol_app hr47 _ _ rfl (by kernel_rfl) (by kernel_rfl)) ?_
          replace hT := touch_app hT hb49 (Nat.le_refl _)
          replace hr := hr.base hb49 hglt
          refine rw_p 6 (.slice x50 (hd ++ ((bek 8 m).drop (8 - sz))).length c51) (fun _ => by kernel_rfl) (fun _ => by kernel_rfl) ?_
          refine rw_p 7 (.int .i64 0) (fun _ => by kernel_rfl) (fun _ => by kernel_rfl) ?_
          refine rw_p 8 (.int .i64 0) (fun _ => by kernel_rfl) (fun _ => by kernel_rfl) ?_
          refine rw_nil ?_
          refine nw_then ?_
          refine cw_ret ?_
          have h0 : sz ≠ 0 := by omega
          have hok : ok = true := by simpa using hq9
          subst hok
          rw [st_ok hbg h0 hps (by omega) dhq13]
          refine nw_ret_body (.tuple #[.slice x50 (hd ++ ((bek 8 m).drop (8 - sz))).length c51, .int .i64 0, .int .i64 0]) (fun _ => by kernel_rfl) ?_
          have ha2 : Ag w46 x50 (hd ++ ((bek 8 m).drop (8 - sz))).length c51 (hd ++ bek sz m) := by rw [← bek8 (k := sz) (n := m) (by omega)]; exact ha52
          exact ⟨_, rfl, _, _, _, rfl, ha2, hr, hT⟩
theorem wstmt {g : Nat} {l rest : List Int} {p pl : Nat} (w : World) (hr : Rw g w (txC rest p) 38) (hbl : Byt l) (hb : Byt rest) (hp : p + rest.length ≤ 9223372036854775000) (ht : Tb w) (hgt : 0 ≠ g) : Calls Tryd.prog 13 #[.pointer (some ⟨g, 0, none⟩), .string (strOfNums l), .int .i64 ((pl : Nat) : Int)] w fun e w' => ∃ v, e = .returned v ∧ RSt g w (stP l rest p pl) v w' := by
  cases hbg : bgP l with
  | none => exact wstmt_no hbg w hr hbl hb hp ht hgt
  | some o => exact wstmt_some (hd := o.1) (sz := o.2) hbg w hr hbl hb hp ht hgt
end Go.Proofs.YtbjjboicfghldabDoor

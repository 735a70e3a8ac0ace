/- What the document's blank, next, pushed and width answer. -/
import Derived.Test.YtbjjboicfghldaaDoorG33
namespace Go.Proofs.YtbjjboicfghldaaDoor
open Go.RowKit
open Wo
set_option linter.unusedVariables false
set_option maxRecDepth 100000
theorem rblank {x : Int} (w : World) : Calls Tryd.prog 38 #[.int .u8 x] w fun e w' => ∃ v, e = .returned v ∧ RVl w (.bool (bl x)) v w' := by
  have hB : Bl w w := Bl.refl w
  refine cw_enter Tryd.func38 rfl 9 rfl ?_
  show CW _ _ _ _ _ _ _ [(0, .int .u8 x)] _
  refine cw_seq ?_
  refine cw_region ?_
  refine rw_p 2 (.bool false) (fun _ => by kernel_rfl) (fun _ => by kernel_rfl) ?_
  refine rw_nil ?_
  refine nw_then ?_
  refine cw_seq ?_
  refine cw_region ?_
  refine rw_p 3 (.int .u8 x) (fun _ => by kernel_rfl) (fun _ => by kernel_rfl) ?_
  refine rw_p 4 (.bool ((x : Int) == (32 : Int))) (fun _ => by kernel_rfl) (fun _ => by kernel_rfl) ?_
  refine rw_p 5 (.bool ((x : Int) == (32 : Int))) (fun _ => by kernel_rfl) (fun _ => by kernel_rfl) ?_
  cases hq1 : ((x : Int) == (32 : Int)) with
  | true =>
    have dhq1 := eq_of_beq hq1
    refine rw_off 6 (fun _ => by kernel_rfl) ?_
    refine rw_off 7 (fun _ => by kernel_rfl) ?_
    refine rw_p 8 (.bool true) (fun _ => by kernel_rfl) (fun _ => by kernel_rfl) ?_
    refine rw_p 2 (.bool true) (fun _ => by kernel_rfl) (fun _ => by kernel_rfl) ?_
    refine rw_nil ?_
    refine nw_then ?_
    refine cw_ret ?_
    refine nw_ret_body (.bool true) (fun _ => by kernel_rfl) ?_
    refine ⟨_, rfl, ?_, hB⟩
    show _ = Value.bool (x == 32 || x == 10); rw [hq1]; rfl
  | false =>
    have dhq1 := ne_of_beq_false hq1
    refine rw_p 6 (.int .u8 x) (fun _ => by kernel_rfl) (fun _ => by kernel_rfl) ?_
    refine rw_p 7 (.bool ((x : Int) == (10 : Int))) (fun _ => by kernel_rfl) (fun _ => by kernel_rfl) ?_
    refine rw_p 8 (.bool ((x : Int) == (10 : Int))) (fun _ => by kernel_rfl) (fun _ => by kernel_rfl) ?_
    refine rw_p 2 (.bool ((x : Int) == (10 : Int))) (fun _ => by kernel_rfl) (fun _ => by kernel_rfl) ?_
    refine rw_nil ?_
    refine nw_then ?_
    refine cw_ret ?_
    refine nw_ret_body (.bool ((x : Int) == (10 : Int))) (fun _ => by kernel_rfl) ?_
    refine ⟨_, rfl, ?_, hB⟩
    show _ = Value.bool (x == 32 || x == 10); rw [hq1]; rfl
set_option maxHeartbeats 2000000 in
theorem rnext {g : Nat} {l : List Int} {i t : Nat} (w : World) (hr : Rw g w (rdC l i t) 57) (hb : Byt l) (ht : t ≤ l.length) (hl : l.length ≤ 9223372036854775000) : Calls Tryd.prog 26 #[.pointer (some ⟨g, 0, none⟩)] w fun e w' => ∃ v, e = .returned v ∧ RRd g w l (t + rn (l.drop t) true) (t + rn (l.drop t) true + (nxW (l.drop t)).length) (.string (strOfNums (nxW (l.drop t)))) v w' := by
  have hT : Touch g w w := Touch.refl _ _
  refine cw_enter Tryd.func26 rfl 89 rfl ?_
  show CW _ _ _ _ _ _ _ [(0, .pointer (some ⟨g, 0, none⟩))] _
  refine cw_seq ?_
  refine cw_region ?_
  refine rw_p 2 (.string (strOfNums ([]))) (fun _ => by kernel_rfl) (fun _ => by kernel_rfl) ?_
  refine rw_nil ?_
  refine nw_then ?_
  refine cw_seq ?_
  refine cw_region ?_
  refine rw_p 3 (.pointer (some ⟨g, 0, none⟩)) (fun _ => by kernel_rfl) (fun _ => by kernel_rfl) ?_
  refine rw_p 4 (.pointer (some ⟨g, 0, none⟩)) (fun _ => by kernel_rfl) (fun _ => by kernel_rfl) ?_
  refine rw_p 5 (.pointer (some ⟨g, 0, none⟩)) (fun _ => by kernel_rfl) (fun _ => by kernel_rfl) ?_
  refine rw_p 6 (.pointer (some ⟨g, 2, none⟩)) (fun _ => by kernel_rfl) (fun _ => by kernel_rfl) ?_
  refine rw_p 7 (.int .i64 ((t : Nat) : Int)) (fun _ => by kernel_rfl) (fun _ => ol_cell 3 _ ⟨g, 2, none⟩ _ _ rfl (by kernel_rfl) (by rw [cell_of_row _ _ _ _ _ _ hr]; rfl) Tryd.underlying3 rfl) ?_
  refine rw_p 8 (.pointer (some ⟨g, 0, none⟩)) (fun _ => by kernel_rfl) (fun _ => by kernel_rfl) ?_
  refine rw_p 9 (.pointer (some ⟨g, 1, none⟩)) (fun _ => by kernel_rfl) (fun _ => by kernel_rfl) ?_
  refine rw_put g #[.string (strOfNums l), .int .i64 ((t : Nat) : Int), .int .i64 ((t : Nat) : Int)] (fun _ => by kernel_rfl) (fun _ => ol_cellrow 3 _ _ g 1 _ _ (.int .i64 ((t : Nat) : Int)) rfl (by kernel_rfl) (by kernel_rfl) hr (by kernel_rfl) (Nat.le_of_ble_eq_true rfl) rfl rfl rfl) ?_
  intro w1 hp2
  replace hT := hT.trans hp2.touch
  replace hr := hr.put hp2
  refine rw_nil ?_
  refine nw_then ?_
  refine cw_seq ?_
  refine cw_block ?_
  refine cw_loop (X := Nat) (fun x9 => [(0, .pointer (some ⟨g, 0, none⟩))]) (fun x9 v => t ≤ x9 ∧ x9 ≤ l.length ∧ (∀ j, t ≤ j → j < x9 → bl (l.getD j 0) = true) ∧ Rw g v (rdC l x9 t) 57 ∧ Touch g w v) (fun x9 => l.length - x9) t (by exact ⟨fun _ => by kernel_rfl, trivial⟩) ⟨Nat.le_refl _, ht, fun j h1 h2 => by omega, hr, hT⟩ ?_
  clear hr hT
  rintro q wl1 ⟨hq1, hq2, hq3, hr, hT⟩
  by_cases hltq : q < l.length
  · skip
    cases hbl : bl (l.getD q 0) with
    | true =>
      refine cw_seq ?_
      refine cw_seq ?_
      refine cw_draw (fun v => Rw g v (rdC l q t) 57) (by kernel_rfl) (hr) ?_
      replace hT := hT.trans (Touch.of_below (Below.refl _ _).drew)
      replace hr := hr.go (Below.refl _ _).drew
      refine dw_take 0 10 (.pointer (some ⟨g, 0, none⟩)) rfl (by kernel_rfl) (fun _ _ _ h => h) (fun _ => by kernel_rfl) (fun v hv _ => by kernel_rfl) hr ?_
      refine dw_take 1 11 (.pointer (some ⟨g, 0, none⟩)) rfl (by kernel_rfl) (fun _ _ _ h => h) (fun _ => by kernel_rfl) (fun v hv _ => by kernel_rfl) hr ?_
      refine dw_take 2 12 (.pointer (some ⟨g, 1, none⟩)) rfl (by kernel_rfl) (fun _ _ _ h => h) (fun _ => by kernel_rfl) (fun v hv _ => by kernel_rfl) hr ?_
      refine dw_take 3 13 (.int .i64 ((q : Nat) : Int)) rfl (by kernel_rfl) (fun _ _ _ h => h) (fun _ => by kernel_rfl) (fun v hv _ => ol_cell 3 _ ⟨g, 1, none⟩ _ _ rfl (by kernel_rfl) (by rw [cell_of_row _ _ _ _ _ _ hv]; rfl) Tryd.underlying3 rfl) hr ?_
      refine dw_take 4 14 (.pointer (some ⟨g, 0, none⟩)) rfl (by kernel_rfl) (fun _ _ _ h => h) (fun _ => by kernel_rfl) (fun v hv _ => by kernel_rfl) hr ?_
      refine dw_take 5 15 (.pointer (some ⟨g, 0, none⟩)) rfl (by kernel_rfl) (fun _ _ _ h => h) (fun _ => by kernel_rfl) (fun v hv _ => by kernel_rfl) hr ?_
      refine dw_take 6 16 (.pointer (some ⟨g, 0, none⟩)) rfl (by kernel_rfl) (fun _ _ _ h => h) (fun _ => by kernel_rfl) (fun v hv _ => by kernel_rfl) hr ?_
      refine dw_take 7 17 (.string (strOfNums l)) rfl (by kernel_rfl) (fun _ _ _ h => h) (fun _ => by kernel_rfl) (fun v hv _ => ol_cell 9 _ ⟨g, 0, none⟩ _ _ rfl (by kernel_rfl) (by rw [cell_of_row _ _ _ _ _ _ hv]; rfl) Tryd.underlying9 rfl) hr ?_
      refine dw_take 8 18 (.int .i64 ((l.length : Nat) : Int)) rfl (by kernel_rfl) (fun _ _ _ h => h) (fun _ => by kernel_rfl) (fun v hv => (fun _ => ol_len9 _ l rfl Tryd.underlying9 (by kernel_rfl))) hr ?_
      refine dw_take 9 19 (.bool true) rfl (by kernel_rfl) (fun _ _ _ h => h) (fun _ => by kernel_rfl) (fun v hv => (fun _ => ol_conv (v := .bool (decide (((q : Nat) : Int) < ((l.length : Nat) : Int)))) (by kernel_rfl) (congrArg Value.bool (decide_eq_true (by omega))))) hr ?_
      refine dw_take 10 20 (.bool true) rfl (by kernel_rfl) (fun _ _ _ h => h) (fun _ => by kernel_rfl) (fun v hv _ => by kernel_rfl) hr ?_
      refine dw_take 11 21 (.pointer (some ⟨g, 0, none⟩)) rfl (by kernel_rfl) (fun _ _ _ h => h) (fun _ => by kernel_rfl) (fun v hv _ => by kernel_rfl) hr ?_
      refine dw_take 12 22 (.pointer (some ⟨g, 0, none⟩)) rfl (by kernel_rfl) (fun _ _ _ h => h) (fun _ => by kernel_rfl) (fun v hv _ => by kernel_rfl) hr ?_
      refine dw_take 13 23 (.pointer (some ⟨g, 0, none⟩)) rfl (by kernel_rfl) (fun _ _ _ h => h) (fun _ => by kernel_rfl) (fun v hv _ => by kernel_rfl) hr ?_
      refine dw_take 14 24 (.string (strOfNums l)) rfl (by kernel_rfl) (fun _ _ _ h => h) (fun _ => by kernel_rfl) (fun v hv _ => ol_cell 9 _ ⟨g, 0, none⟩ _ _ rfl (by kernel_rfl) (by rw [cell_of_row _ _ _ _ _ _ hv]; rfl) Tryd.underlying9 rfl) hr ?_
      refine dw_take 15 25 (.pointer (some ⟨g, 0, none⟩)) rfl (by kernel_rfl) (fun _ _ _ h => h) (fun _ => by kernel_rfl) (fun v hv _ => by kernel_rfl) hr ?_
      refine dw_take 16 26 (.pointer (some ⟨g, 0, none⟩)) rfl (by kernel_rfl) (fun _ _ _ h => h) (fun _ => by kernel_rfl) (fun v hv _ => by kernel_rfl) hr ?_
      refine dw_take 17 27 (.pointer (some ⟨g, 1, none⟩)) rfl (by kernel_rfl) (fun _ _ _ h => h) (fun _ => by kernel_rfl) (fun v hv _ => by kernel_rfl) hr ?_
      refine dw_take 18 28 (.int .i64 ((q : Nat) : Int)) rfl (by kernel_rfl) (fun _ _ _ h => h) (fun _ => by kernel_rfl) (fun v hv _ => ol_cell 3 _ ⟨g, 1, none⟩ _ _ rfl (by kernel_rfl) (by rw [cell_of_row _ _ _ _ _ _ hv]; rfl) Tryd.underlying3 rfl) hr ?_
      refine dw_take 19 29 (.int .u8 (l.getD q 0)) rfl (by kernel_rfl) (fun _ _ _ h => h) (fun _ => by kernel_rfl) (fun v hv => (fun _ => ol_sidx _ _ l q rfl Tryd.underlying9 (by kernel_rfl) (by kernel_rfl) hb (by omega))) hr ?_
      refine dw_ready [20] (by kernel_rfl) (by simp) ?_
      refine ar_call 20 30 38 #[.int .u8 (l.getD q 0)] rfl (fun _ => by kernel_rfl) (fun _ => by kernel_rfl) (R := RVl wl1.drew (.bool true)) (by have := rblank (x := l.getD q 0) wl1.drew; rw [hbl] at this; exact this) (fun u w' h9 => hr.go h9.2) ?_ ar_nil
      rintro _ w3 ⟨rfl, hb4⟩
      replace hT := hT.trans (Touch.of_below hb4)
      replace hr := hr.go hb4
      refine dw_take 21 31 (.bool true) rfl (by kernel_rfl) (fun _ _ _ h => h) (fun _ => by kernel_rfl) (fun v hv _ => by kernel_rfl) hr ?_
      refine dw_done (by kernel_rfl) ?_
      refine nw_then ?_
      refine cw_cond_t (fun _ => by kernel_rfl) ?_
      refine cw_skip ?_
      refine nw_then ?_
      refine cw_block ?_
      refine cw_region ?_
      refine rw_p 32 (.pointer (some ⟨g, 0, none⟩)) (fun _ => by kernel_rfl) (fun _ => by kernel_rfl) ?_
      refine rw_p 33 (.pointer (some ⟨g, 0, none⟩)) (fun _ => by kernel_rfl) (fun _ => by kernel_rfl) ?_
      refine rw_p 34 (.pointer (some ⟨g, 1, none⟩)) (fun _ => by kernel_rfl) (fun _ => by kernel_rfl) ?_
      refine rw_p 35 (.int .i64 ((q : Nat) : Int)) (fun _ => by kernel_rfl) (fun _ => ol_cell 3 _ ⟨g, 1, none⟩ _ _ rfl (by kernel_rfl) (by rw [cell_of_row _ _ _ _ _ _ hr]; rfl) Tryd.underlying3 rfl) ?_
      refine rw_p 36 (.int .i64 ((q + 1 : Nat) : Int)) (fun _ => by kernel_rfl) (fun _ => ol_conv (v := .int .i64 (IntKind.i64.wrap (((q : Nat) : Int) + (1 : Int)))) (by kernel_rfl) (congrArg (Value.int .i64) (show IntKind.i64.wrap (((q : Nat) : Int) + (1 : Int)) = ((q + 1 : Nat) : Int) from (wrap64 (by omega) (by omega)).trans (by omega)))) ?_
      refine rw_p 37 (.pointer (some ⟨g, 0, none⟩)) (fun _ => by kernel_rfl) (fun _ => by kernel_rfl) ?_
      refine rw_p 38 (.pointer (some ⟨g, 1, none⟩)) (fun _ => by kernel_rfl) (fun _ => by kernel_rfl) ?_
      refine rw_put g #[.string (strOfNums l), .int .i64 ((q + 1 : Nat) : Int), .int .i64 ((t : Nat) : Int)] (fun _ => by kernel_rfl) (fun _ => ol_cellrow 3 _ _ g 1 _ _ (.int .i64 ((q + 1 : Nat) : Int)) rfl (by kernel_rfl) (by kernel_rfl) hr (by kernel_rfl) (Nat.le_of_ble_eq_true rfl) rfl rfl rfl) ?_
      intro w5 hp6
      replace hT := hT.trans hp6.touch
      replace hr := hr.put hp6
      refine rw_nil ?_
      refine nw_block ?_
      refine nw_round (X := Nat) (E := fun x9 => [(0, .pointer (some ⟨g, 0, none⟩))]) (R := fun x9 v => t ≤ x9 ∧ x9 ≤ l.length ∧ (∀ j, t ≤ j → j < x9 → bl (l.getD j 0) = true) ∧ Rw g v (rdC l x9 t) 57 ∧ Touch g w v) (μ := fun x9 => l.length - x9) (x := q) (q + 1) (by exact ⟨fun _ => by kernel_rfl, trivial⟩) ⟨by omega, by omega, fun j h1 h2 => ?_, hr, hT⟩ (by show l.length - (q + 1) < l.length - q; omega)
      by_cases hj : j = q
      · subst hj; exact hbl
      · exact hq3 j h1 (by omega)
    | false =>
      have eq := rn_from (l := l) hq1 hq2 hq3 (.inr (by rw [hbl]; decide))
      refine cw_seq ?_
      refine cw_seq ?_
      refine cw_draw (fun v => Rw g v (rdC l q t) 57) (by kernel_rfl) (hr) ?_
      replace hT := hT.trans (Touch.of_below (Below.refl _ _).drew)
      replace hr := hr.go (Below.refl _ _).drew
      refine dw_take 0 10 (.pointer (some ⟨g, 0, none⟩)) rfl (by kernel_rfl) (fun _ _ _ h => h) (fun _ => by kernel_rfl) (fun v hv _ => by kernel_rfl) hr ?_
      refine dw_take 1 11 (.pointer (some ⟨g, 0, none⟩)) rfl (by kernel_rfl) (fun _ _ _ h => h) (fun _ => by kernel_rfl) (fun v hv _ => by kernel_rfl) hr ?_
      refine dw_take 2 12 (.pointer (some ⟨g, 1, none⟩)) rfl (by kernel_rfl) (fun _ _ _ h => h) (fun _ => by kernel_rfl) (fun v hv _ => by kernel_rfl) hr ?_
      refine dw_take 3 13 (.int .i64 ((q : Nat) : Int)) rfl (by kernel_rfl) (fun _ _ _ h => h) (fun _ => by kernel_rfl) (fun v hv _ => ol_cell 3 _ ⟨g, 1, none⟩ _ _ rfl (by kernel_rfl) (by rw [cell_of_row _ _ _ _ _ _ hv]; rfl) Tryd.underlying3 rfl) hr ?_
      refine dw_take 4 14 (.pointer (some ⟨g, 0, none⟩)) rfl (by kernel_rfl) (fun _ _ _ h => h) (fun _ => by kernel_rfl) (fun v hv _ => by kernel_rfl) hr ?_
      refine dw_take 5 15 (.pointer (some ⟨g, 0, none⟩)) rfl (by kernel_rfl) (fun _ _ _ h => h) (fun _ => by kernel_rfl) (fun v hv _ => by kernel_rfl) hr ?_
      refine dw_take 6 16 (.pointer (some ⟨g, 0, none⟩)) rfl (by kernel_rfl) (fun _ _ _ h => h) (fun _ => by kernel_rfl) (fun v hv _ => by kernel_rfl) hr ?_
      refine dw_take 7 17 (.string (strOfNums l)) rfl (by kernel_rfl) (fun _ _ _ h => h) (fun _ => by kernel_rfl) (fun v hv _ => ol_cell 9 _ ⟨g, 0, none⟩ _ _ rfl (by kernel_rfl) (by rw [cell_of_row _ _ _ _ _ _ hv]; rfl) Tryd.underlying9 rfl) hr ?_
      refine dw_take 8 18 (.int .i64 ((l.length : Nat) : Int)) rfl (by kernel_rfl) (fun _ _ _ h => h) (fun _ => by kernel_rfl) (fun v hv => (fun _ => ol_len9 _ l rfl Tryd.underlying9 (by kernel_rfl))) hr ?_
      refine dw_take 9 19 (.bool true) rfl (by kernel_rfl) (fun _ _ _ h => h) (fun _ => by kernel_rfl) (fun v hv => (fun _ => ol_conv (v := .bool (decide (((q : Nat) : Int) < ((l.length : Nat) : Int)))) (by kernel_rfl) (congrArg Value.bool (decide_eq_true (by omega))))) hr ?_
      refine dw_take 10 20 (.bool true) rfl (by kernel_rfl) (fun _ _ _ h => h) (fun _ => by kernel_rfl) (fun v hv _ => by kernel_rfl) hr ?_
      refine dw_take 11 21 (.pointer (some ⟨g, 0, none⟩)) rfl (by kernel_rfl) (fun _ _ _ h => h) (fun _ => by kernel_rfl) (fun v hv _ => by kernel_rfl) hr ?_
      refine dw_take 12 22 (.pointer (some ⟨g, 0, none⟩)) rfl (by kernel_rfl) (fun _ _ _ h => h) (fun _ => by kernel_rfl) (fun v hv _ => by kernel_rfl) hr ?_
      refine dw_take 13 23 (.pointer (some ⟨g, 0, none⟩)) rfl (by kernel_rfl) (fun _ _ _ h => h) (fun _ => by kernel_rfl) (fun v hv _ => by kernel_rfl) hr ?_
      refine dw_take 14 24 (.string (strOfNums l)) rfl (by kernel_rfl) (fun _ _ _ h => h) (fun _ => by kernel_rfl) (fun v hv _ => ol_cell 9 _ ⟨g, 0, none⟩ _ _ rfl (by kernel_rfl) (by rw [cell_of_row _ _ _ _ _ _ hv]; rfl) Tryd.underlying9 rfl) hr ?_
      refine dw_take 15 25 (.pointer (some ⟨g, 0, none⟩)) rfl (by kernel_rfl) (fun _ _ _ h => h) (fun _ => by kernel_rfl) (fun v hv _ => by kernel_rfl) hr ?_
      refine dw_take 16 26 (.pointer (some ⟨g, 0, none⟩)) rfl (by kernel_rfl) (fun _ _ _ h => h) (fun _ => by kernel_rfl) (fun v hv _ => by kernel_rfl) hr ?_
      refine dw_take 17 27 (.pointer (some ⟨g, 1, none⟩)) rfl (by kernel_rfl) (fun _ _ _ h => h) (fun _ => by kernel_rfl) (fun v hv _ => by kernel_rfl) hr ?_
      refine dw_take 18 28 (.int .i64 ((q : Nat) : Int)) rfl (by kernel_rfl) (fun _ _ _ h => h) (fun _ => by kernel_rfl) (fun v hv _ => ol_cell 3 _ ⟨g, 1, none⟩ _ _ rfl (by kernel_rfl) (by rw [cell_of_row _ _ _ _ _ _ hv]; rfl) Tryd.underlying3 rfl) hr ?_
      refine dw_take 19 29 (.int .u8 (l.getD q 0)) rfl (by kernel_rfl) (fun _ _ _ h => h) (fun _ => by kernel_rfl) (fun v hv => (fun _ => ol_sidx _ _ l q rfl Tryd.underlying9 (by kernel_rfl) (by kernel_rfl) hb (by omega))) hr ?_
      refine dw_ready [20] (by kernel_rfl) (by simp) ?_
      refine ar_call 20 30 38 #[.int .u8 (l.getD q 0)] rfl (fun _ => by kernel_rfl) (fun _ => by kernel_rfl) (R := RVl wl1.drew (.bool false)) (by have := rblank (x := l.getD q 0) wl1.drew; rw [hbl] at this; exact this) (fun u w' h9 => hr.go h9.2) ?_ ar_nil
      rintro _ w7 ⟨rfl, hb8⟩
      replace hT := hT.trans (Touch.of_below hb8)
      replace hr := hr.go hb8
      refine dw_take 21 31 (.bool false) rfl (by kernel_rfl) (fun _ _ _ h => h) (fun _ => by kernel_rfl) (fun v hv _ => by kernel_rfl) hr ?_
      refine dw_done (by kernel_rfl) ?_
      refine nw_then ?_
      refine cw_cond_f (fun _ => by kernel_rfl) ?_
      refine cw_exit ?_
      refine nw_exit_then ?_
      refine nw_exit_then ?_
      refine nw_exit_here ?_
      refine nw_then ?_
      refine cw_seq ?_
      refine cw_region ?_
      refine rw_p 39 (.pointer (some ⟨g, 0, none⟩)) (fun _ => by kernel_rfl) (fun _ => by kernel_rfl) ?_
      refine rw_p 40 (.pointer (some ⟨g, 0, none⟩)) (fun _ => by kernel_rfl) (fun _ => by kernel_rfl) ?_
      refine rw_p 41 (.pointer (some ⟨g, 0, none⟩)) (fun _ => by kernel_rfl) (fun _ => by kernel_rfl) ?_
      refine rw_p 42 (.pointer (some ⟨g, 1, none⟩)) (fun _ => by kernel_rfl) (fun _ => by kernel_rfl) ?_
      refine rw_p 43 (.int .i64 ((q : Nat) : Int)) (fun _ => by kernel_rfl) (fun _ => ol_cell 3 _ ⟨g, 1, none⟩ _ _ rfl (by kernel_rfl) (by rw [cell_of_row _ _ _ _ _ _ hr]; rfl) Tryd.underlying3 rfl) ?_
      refine rw_p 44 (.pointer (some ⟨g, 0, none⟩)) (fun _ => by kernel_rfl) (fun _ => by kernel_rfl) ?_
      refine rw_p 45 (.pointer (some ⟨g, 2, none⟩)) (fun _ => by kernel_rfl) (fun _ => by kernel_rfl) ?_
      refine rw_put g #[.string (strOfNums l), .int .i64 ((q : Nat) : Int), .int .i64 ((q : Nat) : Int)] (fun _ => by kernel_rfl) (fun _ => ol_cellrow 3 _ _ g 2 _ _ (.int .i64 ((q : Nat) : Int)) rfl (by kernel_rfl) (by kernel_rfl) hr (by kernel_rfl) (Nat.le_of_ble_eq_true rfl) rfl rfl rfl) ?_
      intro w9 hp10
      replace hT := hT.trans hp10.touch
      replace hr := hr.put hp10
      refine rw_nil ?_
      refine nw_then ?_
      refine cw_seq ?_
      refine cw_block ?_
      refine cw_loop (X := Nat) (fun x9 => [(0, .pointer (some ⟨g, 0, none⟩))]) (fun x9 v => q ≤ x9 ∧ x9 ≤ l.length ∧ (∀ j, q ≤ j → j < x9 → bl (l.getD j 0) = false) ∧ Rw g v (rdC l q x9) 57 ∧ Touch g w v) (fun x9 => l.length - x9) q (by exact ⟨fun _ => by kernel_rfl, trivial⟩) ⟨Nat.le_refl _, hq2, fun j h1 h2 => by omega, hr, hT⟩ ?_
      clear hr hT
      rintro q2 wl2 ⟨hk1, hk2, hk3, hr, hT⟩
      by_cases hltq2 : q2 < l.length
      · skip
        cases hbl : bl (l.getD q2 0) with
        | true =>
          have eq2 := rn_from (l := l) hk1 hk2 hk3 (.inr (by rw [hbl]; decide))
          refine cw_seq ?_
          refine cw_seq ?_
          refine cw_draw (fun v => Rw g v (rdC l q q2) 57) (by kernel_rfl) (hr) ?_
          replace hT := hT.trans (Touch.of_below (Below.refl _ _).drew)
          replace hr := hr.go (Below.refl _ _).drew
          refine dw_take 0 46 (.pointer (some ⟨g, 0, none⟩)) rfl (by kernel_rfl) (fun _ _ _ h => h) (fun _ => by kernel_rfl) (fun v hv _ => by kernel_rfl) hr ?_
          refine dw_take 1 47 (.pointer (some ⟨g, 0, none⟩)) rfl (by kernel_rfl) (fun _ _ _ h => h) (fun _ => by kernel_rfl) (fun v hv _ => by kernel_rfl) hr ?_
          refine dw_take 2 48 (.pointer (some ⟨g, 2, none⟩)) rfl (by kernel_rfl) (fun _ _ _ h => h) (fun _ => by kernel_rfl) (fun v hv _ => by kernel_rfl) hr ?_
          refine dw_take 3 49 (.int .i64 ((q2 : Nat) : Int)) rfl (by kernel_rfl) (fun _ _ _ h => h) (fun _ => by kernel_rfl) (fun v hv _ => ol_cell 3 _ ⟨g, 2, none⟩ _ _ rfl (by kernel_rfl) (by rw [cell_of_row _ _ _ _ _ _ hv]; rfl) Tryd.underlying3 rfl) hr ?_
          refine dw_take 4 50 (.pointer (some ⟨g, 0, none⟩)) rfl (by kernel_rfl) (fun _ _ _ h => h) (fun _ => by kernel_rfl) (fun v hv _ => by kernel_rfl) hr ?_
          refine dw_take 5 51 (.pointer (some ⟨g, 0, none⟩)) rfl (by kernel_rfl) (fun _ _ _ h => h) (fun _ => by kernel_rfl) (fun v hv _ => by kernel_rfl) hr ?_
          refine dw_take 6 52 (.pointer (some ⟨g, 0, none⟩)) rfl (by kernel_rfl) (fun _ _ _ h => h) (fun _ => by kernel_rfl) (fun v hv _ => by kernel_rfl) hr ?_
          refine dw_take 7 53 (.string (strOfNums l)) rfl (by kernel_rfl) (fun _ _ _ h => h) (fun _ => by kernel_rfl) (fun v hv _ => ol_cell 9 _ ⟨g, 0, none⟩ _ _ rfl (by kernel_rfl) (by rw [cell_of_row _ _ _ _ _ _ hv]; rfl) Tryd.underlying9 rfl) hr ?_
          refine dw_take 8 54 (.int .i64 ((l.length : Nat) : Int)) rfl (by kernel_rfl) (fun _ _ _ h => h) (fun _ => by kernel_rfl) (fun v hv => (fun _ => ol_len9 _ l rfl Tryd.underlying9 (by kernel_rfl))) hr ?_
          refine dw_take 9 55 (.bool true) rfl (by kernel_rfl) (fun _ _ _ h => h) (fun _ => by kernel_rfl) (fun v hv => (fun _ => ol_conv (v := .bool (decide (((q2 : Nat) : Int) < ((l.length : Nat) : Int)))) (by kernel_rfl) (congrArg Value.bool (decide_eq_true (by omega))))) hr ?_
          refine dw_take 10 56 (.bool true) rfl (by kernel_rfl) (fun _ _ _ h => h) (fun _ => by kernel_rfl) (fun v hv _ => by kernel_rfl) hr ?_
          refine dw_take 11 57 (.pointer (some ⟨g, 0, none⟩)) rfl (by kernel_rfl) (fun _ _ _ h => h) (fun _ => by kernel_rfl) (fun v hv _ => by kernel_rfl) hr ?_
          refine dw_take 12 58 (.pointer (some ⟨g, 0, none⟩)) rfl (by kernel_rfl) (fun _ _ _ h => h) (fun _ => by kernel_rfl) (fun v hv _ => by kernel_rfl) hr ?_
          refine dw_take 13 59 (.pointer (some ⟨g, 0, none⟩)) rfl (by kernel_rfl) (fun _ _ _ h => h) (fun _ => by kernel_rfl) (fun v hv _ => by kernel_rfl) hr ?_
          refine dw_take 14 60 (.string (strOfNums l)) rfl (by kernel_rfl) (fun _ _ _ h => h) (fun _ => by kernel_rfl) (fun v hv _ => ol_cell 9 _ ⟨g, 0, none⟩ _ _ rfl (by kernel_rfl) (by rw [cell_of_row _ _ _ _ _ _ hv]; rfl) Tryd.underlying9 rfl) hr ?_
          refine dw_take 15 61 (.pointer (some ⟨g, 0, none⟩)) rfl (by kernel_rfl) (fun _ _ _ h => h) (fun _ => by kernel_rfl) (fun v hv _ => by kernel_rfl) hr ?_
          refine dw_take 16 62 (.pointer (some ⟨g, 0, none⟩)) rfl (by kernel_rfl) (fun _ _ _ h => h) (fun _ => by kernel_rfl) (fun v hv _ => by kernel_rfl) hr ?_
          refine dw_take 17 63 (.pointer (some ⟨g, 2, none⟩)) rfl (by kernel_rfl) (fun _ _ _ h => h) (fun _ => by kernel_rfl) (fun v hv _ => by kernel_rfl) hr ?_
          refine dw_take 18 64 (.int .i64 ((q2 : Nat) : Int)) rfl (by kernel_rfl) (fun _ _ _ h => h) (fun _ => by kernel_rfl) (fun v hv _ => ol_cell 3 _ ⟨g, 2, none⟩ _ _ rfl (by kernel_rfl) (by rw [cell_of_row _ _ _ _ _ _ hv]; rfl) Tryd.underlying3 rfl) hr ?_
          refine dw_take 19 65 (.int .u8 (l.getD q2 0)) rfl (by kernel_rfl) (fun _ _ _ h => h) (fun _ => by kernel_rfl) (fun v hv => (fun _ => ol_sidx _ _ l q2 rfl Tryd.underlying9 (by kernel_rfl) (by kernel_rfl) hb (by omega))) hr ?_
          refine dw_ready [20] (by kernel_rfl) (by simp) ?_
          refine ar_call 20 66 38 #[.int .u8 (l.getD q2 0)] rfl (fun _ => by kernel_rfl) (fun _ => by kernel_rfl) (R := RVl wl2.drew (.bool true)) (by have := rblank (x := l.getD q2 0) wl2.drew; rw [hbl] at this; exact this) (fun u w' h9 => hr.go h9.2) ?_ ar_nil
          rintro _ w11 ⟨rfl, hb12⟩
          replace hT := hT.trans (Touch.of_below hb12)
          replace hr := hr.go hb12
          refine dw_take 21 67 (.bool false) rfl (by kernel_rfl) (fun _ _ _ h => h) (fun _ => by kernel_rfl) (fun v hv _ => by kernel_rfl) hr ?_
          refine dw_take 22 68 (.bool false) rfl (by kernel_rfl) (fun _ _ _ h => h) (fun _ => by kernel_rfl) (fun v hv _ => by kernel_rfl) hr ?_
          refine dw_done (by kernel_rfl) ?_
          refine nw_then ?_
          refine cw_cond_f (fun _ => by kernel_rfl) ?_
          refine cw_exit ?_
          refine nw_exit_then ?_
          refine nw_exit_then ?_
          refine nw_exit_here ?_
          refine nw_then ?_
          refine cw_seq ?_
          refine cw_draw (fun v => Rw g v (rdC l q q2) 57) (by kernel_rfl) (hr) ?_
          replace hT := hT.trans (Touch.of_below (Below.refl _ _).drew)
          replace hr := hr.go (Below.refl _ _).drew
          refine dw_take 0 76 (.pointer (some ⟨g, 0, none⟩)) rfl (by kernel_rfl) (fun _ _ _ h => h) (fun _ => by kernel_rfl) (fun v hv _ => by kernel_rfl) hr ?_
          refine dw_take 1 77 (.pointer (some ⟨g, 0, none⟩)) rfl (by kernel_rfl) (fun _ _ _ h => h) (fun _ => by kernel_rfl) (fun v hv _ => by kernel_rfl) hr ?_
          refine dw_take 2 78 (.pointer (some ⟨g, 0, none⟩)) rfl (by kernel_rfl) (fun _ _ _ h => h) (fun _ => by kernel_rfl) (fun v hv _ => by kernel_rfl) hr ?_
          refine dw_take 3 79 (.string (strOfNums l)) rfl (by kernel_rfl) (fun _ _ _ h => h) (fun _ => by kernel_rfl) (fun v hv _ => ol_cell 9 _ ⟨g, 0, none⟩ _ _ rfl (by kernel_rfl) (by rw [cell_of_row _ _ _ _ _ _ hv]; rfl) Tryd.underlying9 rfl) hr ?_
          refine dw_take 4 80 (.pointer (some ⟨g, 0, none⟩)) rfl (by kernel_rfl) (fun _ _ _ h => h) (fun _ => by kernel_rfl) (fun v hv _ => by kernel_rfl) hr ?_
          refine dw_take 5 81 (.pointer (some ⟨g, 0, none⟩)) rfl (by kernel_rfl) (fun _ _ _ h => h) (fun _ => by kernel_rfl) (fun v hv _ => by kernel_rfl) hr ?_
          refine dw_take 6 82 (.pointer (some ⟨g, 1, none⟩)) rfl (by kernel_rfl) (fun _ _ _ h => h) (fun _ => by kernel_rfl) (fun v hv _ => by kernel_rfl) hr ?_
          refine dw_take 7 83 (.int .i64 ((q : Nat) : Int)) rfl (by kernel_rfl) (fun _ _ _ h => h) (fun _ => by kernel_rfl) (fun v hv _ => ol_cell 3 _ ⟨g, 1, none⟩ _ _ rfl (by kernel_rfl) (by rw [cell_of_row _ _ _ _ _ _ hv]; rfl) Tryd.underlying3 rfl) hr ?_
          refine dw_take 8 84 (.pointer (some ⟨g, 0, none⟩)) rfl (by kernel_rfl) (fun _ _ _ h => h) (fun _ => by kernel_rfl) (fun v hv _ => by kernel_rfl) hr ?_
          refine dw_take 9 85 (.pointer (some ⟨g, 0, none⟩)) rfl (by kernel_rfl) (fun _ _ _ h => h) (fun _ => by kernel_rfl) (fun v hv _ => by kernel_rfl) hr ?_
          refine dw_take 10 86 (.pointer (some ⟨g, 2, none⟩)) rfl (by kernel_rfl) (fun _ _ _ h => h) (fun _ => by kernel_rfl) (fun v hv _ => by kernel_rfl) hr ?_
          refine dw_take 11 87 (.int .i64 ((q2 : Nat) : Int)) rfl (by kernel_rfl) (fun _ _ _ h => h) (fun _ => by kernel_rfl) (fun v hv _ => ol_cell 3 _ ⟨g, 2, none⟩ _ _ rfl (by kernel_rfl) (by rw [cell_of_row _ _ _ _ _ _ hv]; rfl) Tryd.underlying3 rfl) hr ?_
          have by13 : Byt ((l.take q2).drop q) := (byt_drop (byt_take hb _) _)
          refine dw_take 12 88 (.string (strOfNums ((l.take q2).drop q))) rfl (by kernel_rfl) (fun _ _ _ h => h) (fun _ => by kernel_rfl) (fun v hv => (fun _ => ol_smid _ _ _ l q q2 rfl Tryd.underlying9 (by kernel_rfl) (by kernel_rfl) (by kernel_rfl) (by omega) (by omega))) hr ?_
          refine dw_take 13 2 (.string (strOfNums ((l.take q2).drop q))) rfl (by kernel_rfl) (fun _ _ _ h => h) (fun _ => by kernel_rfl) (fun v hv _ => by kernel_rfl) hr ?_
          refine dw_done (by kernel_rfl) ?_
          refine nw_then ?_
          refine cw_ret ?_
          refine nw_ret_body (.string (strOfNums ((l.take q2).drop q))) (fun _ => by kernel_rfl) ?_
          obtain ⟨z1, z2, z3⟩ := rd_end hq1 hk1 hk2 eq eq2
          refine ⟨_, rfl, by rw [z1], ?_, hT⟩
          rw [z2, z3]; exact hr
        | false =>
          refine cw_seq ?_
          refine cw_seq ?_
          refine cw_draw (fun v => Rw g v (rdC l q q2) 57) (by kernel_rfl) (hr) ?_
          replace hT := hT.trans (Touch.of_below (Below.refl _ _).drew)
          replace hr := hr.go (Below.refl _ _).drew
          refine dw_take 0 46 (.pointer (some ⟨g, 0, none⟩)) rfl (by kernel_rfl) (fun _ _ _ h => h) (fun _ => by kernel_rfl) (fun v hv _ => by kernel_rfl) hr ?_
          refine dw_take 1 47 (.pointer (some ⟨g, 0, none⟩)) rfl (by kernel_rfl) (fun _ _ _ h => h) (fun _ => by kernel_rfl) (fun v hv _ => by kernel_rfl) hr ?_
          refine dw_take 2 48 (.pointer (some ⟨g, 2, none⟩)) rfl (by kernel_rfl) (fun _ _ _ h => h) (fun _ => by kernel_rfl) (fun v hv _ => by kernel_rfl) hr ?_
          refine dw_take 3 49 (.int .i64 ((q2 : Nat) : Int)) rfl (by kernel_rfl) (fun _ _ _ h => h) (fun _ => by kernel_rfl) (fun v hv _ => ol_cell 3 _ ⟨g, 2, none⟩ _ _ rfl (by kernel_rfl) (by rw [cell_of_row _ _ _ _ _ _ hv]; rfl) Tryd.underlying3 rfl) hr ?_
          refine dw_take 4 50 (.pointer (some ⟨g, 0, none⟩)) rfl (by kernel_rfl) (fun _ _ _ h => h) (fun _ => by kernel_rfl) (fun v hv _ => by kernel_rfl) hr ?_
          refine dw_take 5 51 (.pointer (some ⟨g, 0, none⟩)) rfl (by kernel_rfl) (fun _ _ _ h => h) (fun _ => by kernel_rfl) (fun v hv _ => by kernel_rfl) hr ?_
          refine dw_take 6 52 (.pointer (some ⟨g, 0, none⟩)) rfl (by kernel_rfl) (fun _ _ _ h => h) (fun _ => by kernel_rfl) (fun v hv _ => by kernel_rfl) hr ?_
          refine dw_take 7 53 (.string (strOfNums l)) rfl (by kernel_rfl) (fun _ _ _ h => h) (fun _ => by kernel_rfl) (fun v hv _ => ol_cell 9 _ ⟨g, 0, none⟩ _ _ rfl (by kernel_rfl) (by rw [cell_of_row _ _ _ _ _ _ hv]; rfl) Tryd.underlying9 rfl) hr ?_
          refine dw_take 8 54 (.int .i64 ((l.length : Nat) : Int)) rfl (by kernel_rfl) (fun _ _ _ h => h) (fun _ => by kernel_rfl) (fun v hv => (fun _ => ol_len9 _ l rfl Tryd.underlying9 (by kernel_rfl))) hr ?_
          refine dw_take 9 55 (.bool true) rfl (by kernel_rfl) (fun _ _ _ h => h) (fun _ => by kernel_rfl) (fun v hv => (fun _ => ol_conv (v := .bool (decide (((q2 : Nat) : Int) < ((l.length : Nat) : Int)))) (by kernel_rfl) (congrArg Value.bool (decide_eq_true (by omega))))) hr ?_
          refine dw_take 10 56 (.bool true) rfl (by kernel_rfl) (fun _ _ _ h => h) (fun _ => by kernel_rfl) (fun v hv _ => by kernel_rfl) hr ?_
          refine dw_take 11 57 (.pointer (some ⟨g, 0, none⟩)) rfl (by kernel_rfl) (fun _ _ _ h => h) (fun _ => by kernel_rfl) (fun v hv _ => by kernel_rfl) hr ?_
          refine dw_take 12 58 (.pointer (some ⟨g, 0, none⟩)) rfl (by kernel_rfl) (fun _ _ _ h => h) (fun _ => by kernel_rfl) (fun v hv _ => by kernel_rfl) hr ?_
          refine dw_take 13 59 (.pointer (some ⟨g, 0, none⟩)) rfl (by kernel_rfl) (fun _ _ _ h => h) (fun _ => by kernel_rfl) (fun v hv _ => by kernel_rfl) hr ?_
          refine dw_take 14 60 (.string (strOfNums l)) rfl (by kernel_rfl) (fun _ _ _ h => h) (fun _ => by kernel_rfl) (fun v hv _ => ol_cell 9 _ ⟨g, 0, none⟩ _ _ rfl (by kernel_rfl) (by rw [cell_of_row _ _ _ _ _ _ hv]; rfl) Tryd.underlying9 rfl) hr ?_
          refine dw_take 15 61 (.pointer (some ⟨g, 0, none⟩)) rfl (by kernel_rfl) (fun _ _ _ h => h) (fun _ => by kernel_rfl) (fun v hv _ => by kernel_rfl) hr ?_
          refine dw_take 16 62 (.pointer (some ⟨g, 0, none⟩)) rfl (by kernel_rfl) (fun _ _ _ h => h) (fun _ => by kernel_rfl) (fun v hv _ => by kernel_rfl) hr ?_
          refine dw_take 17 63 (.pointer (some ⟨g, 2, none⟩)) rfl (by kernel_rfl) (fun _ _ _ h => h) (fun _ => by kernel_rfl) (fun v hv _ => by kernel_rfl) hr ?_
          refine dw_take 18 64 (.int .i64 ((q2 : Nat) : Int)) rfl (by kernel_rfl) (fun _ _ _ h => h) (fun _ => by kernel_rfl) (fun v hv _ => ol_cell 3 _ ⟨g, 2, none⟩ _ _ rfl (by kernel_rfl) (by rw [cell_of_row _ _ _ _ _ _ hv]; rfl) Tryd.underlying3 rfl) hr ?_
          refine dw_take 19 65 (.int .u8 (l.getD q2 0)) rfl (by kernel_rfl) (fun _ _ _ h => h) (fun _ => by kernel_rfl) (fun v hv => (fun _ => ol_sidx _ _ l q2 rfl Tryd.underlying9 (by kernel_rfl) (by kernel_rfl) hb (by omega))) hr ?_
          refine dw_ready [20] (by kernel_rfl) (by simp) ?_
          refine ar_call 20 66 38 #[.int .u8 (l.getD q2 0)] rfl (fun _ => by kernel_rfl) (fun _ => by kernel_rfl) (R := RVl wl2.drew (.bool false)) (by have := rblank (x := l.getD q2 0) wl2.drew; rw [hbl] at this; exact this) (fun u w' h9 => hr.go h9.2) ?_ ar_nil
          rintro _ w14 ⟨rfl, hb15⟩
          replace hT := hT.trans (Touch.of_below hb15)
          replace hr := hr.go hb15
          refine dw_take 21 67 (.bool true) rfl (by kernel_rfl) (fun _ _ _ h => h) (fun _ => by kernel_rfl) (fun v hv _ => by kernel_rfl) hr ?_
          refine dw_take 22 68 (.bool true) rfl (by kernel_rfl) (fun _ _ _ h => h) (fun _ => by kernel_rfl) (fun v hv _ => by kernel_rfl) hr ?_
          refine dw_done (by kernel_rfl) ?_
          refine nw_then ?_
          refine cw_cond_t (fun _ => by kernel_rfl) ?_
          refine cw_skip ?_
          refine nw_then ?_
          refine cw_block ?_
          refine cw_region ?_
          refine rw_p 69 (.pointer (some ⟨g, 0, none⟩)) (fun _ => by kernel_rfl) (fun _ => by kernel_rfl) ?_
          refine rw_p 70 (.pointer (some ⟨g, 0, none⟩)) (fun _ => by kernel_rfl) (fun _ => by kernel_rfl) ?_
          refine rw_p 71 (.pointer (some ⟨g, 2, none⟩)) (fun _ => by kernel_rfl) (fun _ => by kernel_rfl) ?_
          refine rw_p 72 (.int .i64 ((q2 : Nat) : Int)) (fun _ => by kernel_rfl) (fun _ => ol_cell 3 _ ⟨g, 2, none⟩ _ _ rfl (by kernel_rfl) (by rw [cell_of_row _ _ _ _ _ _ hr]; rfl) Tryd.underlying3 rfl) ?_
          refine rw_p 73 (.int .i64 ((q2 + 1 : Nat) : Int)) (fun _ => by kernel_rfl) (fun _ => ol_conv (v := .int .i64 (IntKind.i64.wrap (((q2 : Nat) : Int) + (1 : Int)))) (by kernel_rfl) (congrArg (Value.int .i64) (show IntKind.i64.wrap (((q2 : Nat) : Int) + (1 : Int)) = ((q2 + 1 : Nat) : Int) from (wrap64 (by omega) (by omega)).trans (by omega)))) ?_
          refine rw_p 74 (.pointer (some ⟨g, 0, none⟩)) (fun _ => by kernel_rfl) (fun _ => by kernel_rfl) ?_
          refine rw_p 75 (.pointer (some ⟨g, 2, none⟩)) (fun _ => by kernel_rfl) (fun _ => by kernel_rfl) ?_
          refine rw_put g #[.string (strOfNums l), .int .i64 ((q : Nat) : Int), .int .i64 ((q2 + 1 : Nat) : Int)] (fun _ => by kernel_rfl) (fun _ => ol_cellrow 3 _ _ g 2 _ _ (.int .i64 ((q2 + 1 : Nat) : Int)) rfl (by kernel_rfl) (by kernel_rfl) hr (by kernel_rfl) (Nat.le_of_ble_eq_true rfl) rfl rfl rfl) ?_
          intro w16 hp17
          replace hT := hT.trans hp17.touch
          replace hr := hr.put hp17
          refine rw_nil ?_
          refine nw_block ?_
          refine nw_round (X := Nat) (E := fun x9 => [(0, .pointer (some ⟨g, 0, none⟩))]) (R := fun x9 v => q ≤ x9 ∧ x9 ≤ l.length ∧ (∀ j, q ≤ j → j < x9 → bl (l.getD j 0) = false) ∧ Rw g v (rdC l q x9) 57 ∧ Touch g w v) (μ := fun x9 => l.length - x9) (x := q2) (q2 + 1) (by exact ⟨fun _ => by kernel_rfl, trivial⟩) ⟨by omega, by omega, fun j h1 h2 => ?_, hr, hT⟩ (by show l.length - (q2 + 1) < l.length - q2; omega)
          by_cases hj : j = q2
          · subst hj; exact hbl
          · exact hk3 j h1 (by omega)
      · skip
        have eq2 := rn_from (l := l) hk1 hk2 hk3 (.inl (by omega))
        refine cw_seq ?_
        refine cw_seq ?_
        refine cw_draw (fun v => Rw g v (rdC l q q2) 57) (by kernel_rfl) (hr) ?_
        replace hT := hT.trans (Touch.of_below (Below.refl _ _).drew)
        replace hr := hr.go (Below.refl _ _).drew
        refine dw_take 0 46 (.pointer (some ⟨g, 0, none⟩)) rfl (by kernel_rfl) (fun _ _ _ h => h) (fun _ => by kernel_rfl) (fun v hv _ => by kernel_rfl) hr ?_
        refine dw_take 1 47 (.pointer (some ⟨g, 0, none⟩)) rfl (by kernel_rfl) (fun _ _ _ h => h) (fun _ => by kernel_rfl) (fun v hv _ => by kernel_rfl) hr ?_
        refine dw_take 2 48 (.pointer (some ⟨g, 2, none⟩)) rfl (by kernel_rfl) (fun _ _ _ h => h) (fun _ => by kernel_rfl) (fun v hv _ => by kernel_rfl) hr ?_
        refine dw_take 3 49 (.int .i64 ((q2 : Nat) : Int)) rfl (by kernel_rfl) (fun _ _ _ h => h) (fun _ => by kernel_rfl) (fun v hv _ => ol_cell 3 _ ⟨g, 2, none⟩ _ _ rfl (by kernel_rfl) (by rw [cell_of_row _ _ _ _ _ _ hv]; rfl) Tryd.underlying3 rfl) hr ?_
        refine dw_take 4 50 (.pointer (some ⟨g, 0, none⟩)) rfl (by kernel_rfl) (fun _ _ _ h => h) (fun _ => by kernel_rfl) (fun v hv _ => by kernel_rfl) hr ?_
        refine dw_take 5 51 (.pointer (some ⟨g, 0, none⟩)) rfl (by kernel_rfl) (fun _ _ _ h => h) (fun _ => by kernel_rfl) (fun v hv _ => by kernel_rfl) hr ?_
        refine dw_take 6 52 (.pointer (some ⟨g, 0, none⟩)) rfl (by kernel_rfl) (fun _ _ _ h => h) (fun _ => by kernel_rfl) (fun v hv _ => by kernel_rfl) hr ?_
        refine dw_take 7 53 (.string (strOfNums l)) rfl (by kernel_rfl) (fun _ _ _ h => h) (fun _ => by kernel_rfl) (fun v hv _ => ol_cell 9 _ ⟨g, 0, none⟩ _ _ rfl (by kernel_rfl) (by rw [cell_of_row _ _ _ _ _ _ hv]; rfl) Tryd.underlying9 rfl) hr ?_
        refine dw_take 8 54 (.int .i64 ((l.length : Nat) : Int)) rfl (by kernel_rfl) (fun _ _ _ h => h) (fun _ => by kernel_rfl) (fun v hv => (fun _ => ol_len9 _ l rfl Tryd.underlying9 (by kernel_rfl))) hr ?_
        refine dw_take 9 55 (.bool false) rfl (by kernel_rfl) (fun _ _ _ h => h) (fun _ => by kernel_rfl) (fun v hv => (fun _ => ol_conv (v := .bool (decide (((q2 : Nat) : Int) < ((l.length : Nat) : Int)))) (by kernel_rfl) (congrArg Value.bool (decide_eq_false (by omega))))) hr ?_
        refine dw_take 10 56 (.bool false) rfl (by kernel_rfl) (fun _ _ _ h => h) (fun _ => by kernel_rfl) (fun v hv _ => by kernel_rfl) hr ?_
        refine dw_off 11 57 rfl (by kernel_rfl) (fun _ _ _ h => h) (fun _ => by kernel_rfl) hr ?_
        refine dw_off 12 58 rfl (by kernel_rfl) (fun _ _ _ h => h) (fun _ => by kernel_rfl) hr ?_
        refine dw_off 13 59 rfl (by kernel_rfl) (fun _ _ _ h => h) (fun _ => by kernel_rfl) hr ?_
        refine dw_off 14 60 rfl (by kernel_rfl) (fun _ _ _ h => h) (fun _ => by kernel_rfl) hr ?_
        refine dw_off 15 61 rfl (by kernel_rfl) (fun _ _ _ h => h) (fun _ => by kernel_rfl) hr ?_
        refine dw_off 16 62 rfl (by kernel_rfl) (fun _ _ _ h => h) (fun _ => by kernel_rfl) hr ?_
        refine dw_off 17 63 rfl (by kernel_rfl) (fun _ _ _ h => h) (fun _ => by kernel_rfl) hr ?_
        refine dw_off 18 64 rfl (by kernel_rfl) (fun _ _ _ h => h) (fun _ => by kernel_rfl) hr ?_
        refine dw_off 19 65 rfl (by kernel_rfl) (fun _ _ _ h => h) (fun _ => by kernel_rfl) hr ?_
        refine dw_off 20 66 rfl (by kernel_rfl) (fun _ _ _ h => h) (fun _ => by kernel_rfl) hr ?_
        refine dw_off 21 67 rfl (by kernel_rfl) (fun _ _ _ h => h) (fun _ => by kernel_rfl) hr ?_
        refine dw_take 22 68 (.bool false) rfl (by kernel_rfl) (fun _ _ _ h => h) (fun _ => by kernel_rfl) (fun v hv _ => by kernel_rfl) hr ?_
        refine dw_done (by kernel_rfl) ?_
        refine nw_then ?_
        refine cw_cond_f (fun _ => by kernel_rfl) ?_
        refine cw_exit ?_
        refine nw_exit_then ?_
        refine nw_exit_then ?_
        refine nw_exit_here ?_
        refine nw_then ?_
        refine cw_seq ?_
        refine cw_draw (fun v => Rw g v (rdC l q q2) 57) (by kernel_rfl) (hr) ?_
        replace hT := hT.trans (Touch.of_below (Below.refl _ _).drew)
        replace hr := hr.go (Below.refl _ _).drew
        refine dw_take 0 76 (.pointer (some ⟨g, 0, none⟩)) rfl (by kernel_rfl) (fun _ _ _ h => h) (fun _ => by kernel_rfl) (fun v hv _ => by kernel_rfl) hr ?_
        refine dw_take 1 77 (.pointer (some ⟨g, 0, none⟩)) rfl (by kernel_rfl) (fun _ _ _ h => h) (fun _ => by kernel_rfl) (fun v hv _ => by kernel_rfl) hr ?_
        refine dw_take 2 78 (.pointer (some ⟨g, 0, none⟩)) rfl (by kernel_rfl) (fun _ _ _ h => h) (fun _ => by kernel_rfl) (fun v hv _ => by kernel_rfl) hr ?_
        refine dw_take 3 79 (.string (strOfNums l)) rfl (by kernel_rfl) (fun _ _ _ h => h) (fun _ => by kernel_rfl) (fun v hv _ => ol_cell 9 _ ⟨g, 0, none⟩ _ _ rfl (by kernel_rfl) (by rw [cell_of_row _ _ _ _ _ _ hv]; rfl) Tryd.underlying9 rfl) hr ?_
        refine dw_take 4 80 (.pointer (some ⟨g, 0, none⟩)) rfl (by kernel_rfl) (fun _ _ _ h => h) (fun _ => by kernel_rfl) (fun v hv _ => by kernel_rfl) hr ?_
        refine dw_take 5 81 (.pointer (some ⟨g, 0, none⟩)) rfl (by kernel_rfl) (fun _ _ _ h => h) (fun _ => by kernel_rfl) (fun v hv _ => by kernel_rfl) hr ?_
        refine dw_take 6 82 (.pointer (some ⟨g, 1, none⟩)) rfl (by kernel_rfl) (fun _ _ _ h => h) (fun _ => by kernel_rfl) (fun v hv _ => by kernel_rfl) hr ?_
        refine dw_take 7 83 (.int .i64 ((q : Nat) : Int)) rfl (by kernel_rfl) (fun _ _ _ h => h) (fun _ => by kernel_rfl) (fun v hv _ => ol_cell 3 _ ⟨g, 1, none⟩ _ _ rfl (by kernel_rfl) (by rw [cell_of_row _ _ _ _ _ _ hv]; rfl) Tryd.underlying3 rfl) hr ?_
        refine dw_take 8 84 (.pointer (some ⟨g, 0, none⟩)) rfl (by kernel_rfl) (fun _ _ _ h => h) (fun _ => by kernel_rfl) (fun v hv _ => by kernel_rfl) hr ?_
        refine dw_take 9 85 (.pointer (some ⟨g, 0, none⟩)) rfl (by kernel_rfl) (fun _ _ _ h => h) (fun _ => by kernel_rfl) (fun v hv _ => by kernel_rfl) hr ?_
        refine dw_take 10 86 (.pointer (some ⟨g, 2, none⟩)) rfl (by kernel_rfl) (fun _ _ _ h => h) (fun _ => by kernel_rfl) (fun v hv _ => by kernel_rfl) hr ?_
        refine dw_take 11 87 (.int .i64 ((q2 : Nat) : Int)) rfl (by kernel_rfl) (fun _ _ _ h => h) (fun _ => by kernel_rfl) (fun v hv _ => ol_cell 3 _ ⟨g, 2, none⟩ _ _ rfl (by kernel_rfl) (by rw [cell_of_row _ _ _ _ _ _ hv]; rfl) Tryd.underlying3 rfl) hr ?_
        have by18 : Byt ((l.take q2).drop q) := (byt_drop (byt_take hb _) _)
        refine dw_take 12 88 (.string (strOfNums ((l.take q2).drop q))) rfl (by kernel_rfl) (fun _ _ _ h => h) (fun _ => by kernel_rfl) (fun v hv => (fun _ => ol_smid _ _ _ l q q2 rfl Tryd.underlying9 (by kernel_rfl) (by kernel_rfl) (by kernel_rfl) (by omega) (by omega))) hr ?_
        refine dw_take 13 2 (.string (strOfNums ((l.take q2).drop q))) rfl (by kernel_rfl) (fun _ _ _ h => h) (fun _ => by kernel_rfl) (fun v hv _ => by kernel_rfl) hr ?_
        refine dw_done (by kernel_rfl) ?_
        refine nw_then ?_
        refine cw_ret ?_
        refine nw_ret_body (.string (strOfNums ((l.take q2).drop q))) (fun _ => by kernel_rfl) ?_
        obtain ⟨z1, z2, z3⟩ := rd_end hq1 hk1 hk2 eq eq2
        refine ⟨_, rfl, by rw [z1], ?_, hT⟩
        rw [z2, z3]; exact hr
  · skip
    have eq := rn_from (l := l) hq1 hq2 hq3 (.inl (by omega))
    refine cw_seq ?_
    refine cw_seq ?_
    refine cw_draw (fun v => Rw g v (rdC l q t) 57) (by kernel_rfl) (hr) ?_
    replace hT := hT.trans (Touch.of_below (Below.refl _ _).drew)
    replace hr := hr.go (Below.refl _ _).drew
    refine dw_take 0 10 (.pointer (some ⟨g, 0, none⟩)) rfl (by kernel_rfl) (fun _ _ _ h => h) (fun _ => by kernel_rfl) (fun v hv _ => by kernel_rfl) hr ?_
    refine dw_take 1 11 (.pointer (some ⟨g, 0, none⟩)) rfl (by kernel_rfl) (fun _ _ _ h => h) (fun _ => by kernel_rfl) (fun v hv _ => by kernel_rfl) hr ?_
    refine dw_take 2 12 (.pointer (some ⟨g, 1, none⟩)) rfl (by kernel_rfl) (fun _ _ _ h => h) (fun _ => by kernel_rfl) (fun v hv _ => by kernel_rfl) hr ?_
    refine dw_take 3 13 (.int .i64 ((q : Nat) : Int)) rfl (by kernel_rfl) (fun _ _ _ h => h) (fun _ => by kernel_rfl) (fun v hv _ => ol_cell 3 _ ⟨g, 1, none⟩ _ _ rfl (by kernel_rfl) (by rw [cell_of_row _ _ _ _ _ _ hv]; rfl) Tryd.underlying3 rfl) hr ?_
    refine dw_take 4 14 (.pointer (some ⟨g, 0, none⟩)) rfl (by kernel_rfl) (fun _ _ _ h => h) (fun _ => by kernel_rfl) (fun v hv _ => by kernel_rfl) hr ?_
    refine dw_take 5 15 (.pointer (some ⟨g, 0, none⟩)) rfl (by kernel_rfl) (fun _ _ _ h => h) (fun _ => by kernel_rfl) (fun v hv _ => by kernel_rfl) hr ?_
    refine dw_take 6 16 (.pointer (some ⟨g, 0, none⟩)) rfl (by kernel_rfl) (fun _ _ _ h => h) (fun _ => by kernel_rfl) (fun v hv _ => by kernel_rfl) hr ?_
    refine dw_take 7 17 (.string (strOfNums l)) rfl (by kernel_rfl) (fun _ _ _ h => h) (fun _ => by kernel_rfl) (fun v hv _ => ol_cell 9 _ ⟨g, 0, none⟩ _ _ rfl (by kernel_rfl) (by rw [cell_of_row _ _ _ _ _ _ hv]; rfl) Tryd.underlying9 rfl) hr ?_
    refine dw_take 8 18 (.int .i64 ((l.length : Nat) : Int)) rfl (by kernel_rfl) (fun _ _ _ h => h) (fun _ => by kernel_rfl) (fun v hv => (fun _ => ol_len9 _ l rfl Tryd.underlying9 (by kernel_rfl))) hr ?_
    refine dw_take 9 19 (.bool false) rfl (by kernel_rfl) (fun _ _ _ h => h) (fun _ => by kernel_rfl) (fun v hv => (fun _ => ol_conv (v := .bool (decide (((q : Nat) : Int) < ((l.length : Nat) : Int)))) (by kernel_rfl) (congrArg Value.bool (decide_eq_false (by omega))))) hr ?_
    refine dw_take 10 20 (.bool false) rfl (by kernel_rfl) (fun _ _ _ h => h) (fun _ => by kernel_rfl) (fun v hv _ => by kernel_rfl) hr ?_
    refine dw_off 11 21 rfl (by kernel_rfl) (fun _ _ _ h => h) (fun _ => by kernel_rfl) hr ?_
    refine dw_off 12 22 rfl (by kernel_rfl) (fun _ _ _ h => h) (fun _ => by kernel_rfl) hr ?_
    refine dw_off 13 23 rfl (by kernel_rfl) (fun _ _ _ h => h) (fun _ => by kernel_rfl) hr ?_
    refine dw_off 14 24 rfl (by kernel_rfl) (fun _ _ _ h => h) (fun _ => by kernel_rfl) hr ?_
    refine dw_off 15 25 rfl (by kernel_rfl) (fun _ _ _ h => h) (fun _ => by kernel_rfl) hr ?_
    refine dw_off 16 26 rfl (by kernel_rfl) (fun _ _ _ h => h) (fun _ => by kernel_rfl) hr ?_
    refine dw_off 17 27 rfl (by kernel_rfl) (fun _ _ _ h => h) (fun _ => by kernel_rfl) hr ?_
    refine dw_off 18 28 rfl (by kernel_rfl) (fun _ _ _ h => h) (fun _ => by kernel_rfl) hr ?_
    refine dw_off 19 29 rfl (by kernel_rfl) (fun _ _ _ h => h) (fun _ => by kernel_rfl) hr ?_
    refine dw_off 20 30 rfl (by kernel_rfl) (fun _ _ _ h => h) (fun _ => by kernel_rfl) hr ?_
    refine dw_take 21 31 (.bool false) rfl (by kernel_rfl) (fun _ _ _ h => h) (fun _ => by kernel_rfl) (fun v hv _ => by kernel_rfl) hr ?_
    refine dw_done (by kernel_rfl) ?_
    refine nw_then ?_
    refine cw_cond_f (fun _ => by kernel_rfl) ?_
    refine cw_exit ?_
    refine nw_exit_then ?_
    refine nw_exit_then ?_
    refine nw_exit_here ?_
    refine nw_then ?_
    refine cw_seq ?_
    refine cw_region ?_
    refine rw_p 39 (.pointer (some ⟨g, 0, none⟩)) (fun _ => by kernel_rfl) (fun _ => by kernel_rfl) ?_
    refine rw_p 40 (.pointer (some ⟨g, 0, none⟩)) (fun _ => by kernel_rfl) (fun _ => by kernel_rfl) ?_
    refine rw_p 41 (.pointer (some ⟨g, 0, none⟩)) (fun _ => by kernel_rfl) (fun _ => by kernel_rfl) ?_
    refine rw_p 42 (.pointer (some ⟨g, 1, none⟩)) (fun _ => by kernel_rfl) (fun _ => by kernel_rfl) ?_
    refine rw_p 43 (.int .i64 ((q : Nat) : Int)) (fun _ => by kernel_rfl) (fun _ => ol_cell 3 _ ⟨g, 1, none⟩ _ _ rfl (by kernel_rfl) (by rw [cell_of_row _ _ _ _ _ _ hr]; rfl) Tryd.underlying3 rfl) ?_
    refine rw_p 44 (.pointer (some ⟨g, 0, none⟩)) (fun _ => by kernel_rfl) (fun _ => by kernel_rfl) ?_
    refine rw_p 45 (.pointer (some ⟨g, 2, none⟩)) (fun _ => by kernel_rfl) (fun _ => by kernel_rfl) ?_
    refine rw_put g #[.string (strOfNums l), .int .i64 ((q : Nat) : Int), .int .i64 ((q : Nat) : Int)] (fun _ => by kernel_rfl) (fun _ => ol_cellrow 3 _ _ g 2 _ _ (.int .i64 ((q : Nat) : Int)) rfl (by kernel_rfl) (by kernel_rfl) hr (by kernel_rfl) (Nat.le_of_ble_eq_true rfl) rfl rfl rfl) ?_
    intro w19 hp20
    replace hT := hT.trans hp20.touch
    replace hr := hr.put hp20
    refine rw_nil ?_
    refine nw_then ?_
    refine cw_seq ?_
    refine cw_block ?_
    refine cw_loop (X := Nat) (fun x9 => [(0, .pointer (some ⟨g, 0, none⟩))]) (fun x9 v => q ≤ x9 ∧ x9 ≤ l.length ∧ (∀ j, q ≤ j → j < x9 → bl (l.getD j 0) = false) ∧ Rw g v (rdC l q x9) 57 ∧ Touch g w v) (fun x9 => l.length - x9) q (by exact ⟨fun _ => by kernel_rfl, trivial⟩) ⟨Nat.le_refl _, hq2, fun j h1 h2 => by omega, hr, hT⟩ ?_
    clear hr hT
    rintro q2 wl2 ⟨hk1, hk2, hk3, hr, hT⟩
    by_cases hltq2 : q2 < l.length
    · skip
      cases hbl : bl (l.getD q2 0) with
      | true =>
        have eq2 := rn_from (l := l) hk1 hk2 hk3 (.inr (by rw [hbl]; decide))
        refine cw_seq ?_
        refine cw_seq ?_
        refine cw_draw (fun v => Rw g v (rdC l q q2) 57) (by kernel_rfl) (hr) ?_
        replace hT := hT.trans (Touch.of_below (Below.refl _ _).drew)
        replace hr := hr.go (Below.refl _ _).drew
        refine dw_take 0 46 (.pointer (some ⟨g, 0, none⟩)) rfl (by kernel_rfl) (fun _ _ _ h => h) (fun _ => by kernel_rfl) (fun v hv _ => by kernel_rfl) hr ?_
        refine dw_take 1 47 (.pointer (some ⟨g, 0, none⟩)) rfl (by kernel_rfl) (fun _ _ _ h => h) (fun _ => by kernel_rfl) (fun v hv _ => by kernel_rfl) hr ?_
        refine dw_take 2 48 (.pointer (some ⟨g, 2, none⟩)) rfl (by kernel_rfl) (fun _ _ _ h => h) (fun _ => by kernel_rfl) (fun v hv _ => by kernel_rfl) hr ?_
        refine dw_take 3 49 (.int .i64 ((q2 : Nat) : Int)) rfl (by kernel_rfl) (fun _ _ _ h => h) (fun _ => by kernel_rfl) (fun v hv _ => ol_cell 3 _ ⟨g, 2, none⟩ _ _ rfl (by kernel_rfl) (by rw [cell_of_row _ _ _ _ _ _ hv]; rfl) Tryd.underlying3 rfl) hr ?_
        refine dw_take 4 50 (.pointer (some ⟨g, 0, none⟩)) rfl (by kernel_rfl) (fun _ _ _ h => h) (fun _ => by kernel_rfl) (fun v hv _ => by kernel_rfl) hr ?_
        refine dw_take 5 51 (.pointer (some ⟨g, 0, none⟩)) rfl (by kernel_rfl) (fun _ _ _ h => h) (fun _ => by kernel_rfl) (fun v hv _ => by kernel_rfl) hr ?_
        refine dw_take 6 52 (.pointer (some ⟨g, 0, none⟩)) rfl (by kernel_rfl) (fun _ _ _ h => h) (fun _ => by kernel_rfl) (fun v hv _ => by kernel_rfl) hr ?_
        refine dw_take 7 53 (.string (strOfNums l)) rfl (by kernel_rfl) (fun _ _ _ h => h) (fun _ => by kernel_rfl) (fun v hv _ => ol_cell 9 _ ⟨g, 0, none⟩ _ _ rfl (by kernel_rfl) (by rw [cell_of_row _ _ _ _ _ _ hv]; rfl) Tryd.underlying9 rfl) hr ?_
        refine dw_take 8 54 (.int .i64 ((l.length : Nat) : Int)) rfl (by kernel_rfl) (fun _ _ _ h => h) (fun _ => by kernel_rfl) (fun v hv => (fun _ => ol_len9 _ l rfl Tryd.underlying9 (by kernel_rfl))) hr ?_
        refine dw_take 9 55 (.bool true) rfl (by kernel_rfl) (fun _ _ _ h => h) (fun _ => by kernel_rfl) (fun v hv => (fun _ => ol_conv (v := .bool (decide (((q2 : Nat) : Int) < ((l.length : Nat) : Int)))) (by kernel_rfl) (congrArg Value.bool (decide_eq_true (by omega))))) hr ?_
        refine dw_take 10 56 (.bool true) rfl (by kernel_rfl) (fun _ _ _ h => h) (fun _ => by kernel_rfl) (fun v hv _ => by kernel_rfl) hr ?_
        refine dw_take 11 57 (.pointer (some ⟨g, 0, none⟩)) rfl (by kernel_rfl) (fun _ _ _ h => h) (fun _ => by kernel_rfl) (fun v hv _ => by kernel_rfl) hr ?_
        refine dw_take 12 58 (.pointer (some ⟨g, 0, none⟩)) rfl (by kernel_rfl) (fun _ _ _ h => h) (fun _ => by kernel_rfl) (fun v hv _ => by kernel_rfl) hr ?_
        refine dw_take 13 59 (.pointer (some ⟨g, 0, none⟩)) rfl (by kernel_rfl) (fun _ _ _ h => h) (fun _ => by kernel_rfl) (fun v hv _ => by kernel_rfl) hr ?_
        refine dw_take 14 60 (.string (strOfNums l)) rfl (by kernel_rfl) (fun _ _ _ h => h) (fun _ => by kernel_rfl) (fun v hv _ => ol_cell 9 _ ⟨g, 0, none⟩ _ _ rfl (by kernel_rfl) (by rw [cell_of_row _ _ _ _ _ _ hv]; rfl) Tryd.underlying9 rfl) hr ?_
        refine dw_take 15 61 (.pointer (some ⟨g, 0, none⟩)) rfl (by kernel_rfl) (fun _ _ _ h => h) (fun _ => by kernel_rfl) (fun v hv _ => by kernel_rfl) hr ?_
        refine dw_take 16 62 (.pointer (some ⟨g, 0, none⟩)) rfl (by kernel_rfl) (fun _ _ _ h => h) (fun _ => by kernel_rfl) (fun v hv _ => by kernel_rfl) hr ?_
        refine dw_take 17 63 (.pointer (some ⟨g, 2, none⟩)) rfl (by kernel_rfl) (fun _ _ _ h => h) (fun _ => by kernel_rfl) (fun v hv _ => by kernel_rfl) hr ?_
        refine dw_take 18 64 (.int .i64 ((q2 : Nat) : Int)) rfl (by kernel_rfl) (fun _ _ _ h => h) (fun _ => by kernel_rfl) (fun v hv _ => ol_cell 3 _ ⟨g, 2, none⟩ _ _ rfl (by kernel_rfl) (by rw [cell_of_row _ _ _ _ _ _ hv]; rfl) Tryd.underlying3 rfl) hr ?_
        refine dw_take 19 65 (.int .u8 (l.getD q2 0)) rfl (by kernel_rfl) (fun _ _ _ h => h) (fun _ => by kernel_rfl) (fun v hv => (fun _ => ol_sidx _ _ l q2 rfl Tryd.underlying9 (by kernel_rfl) (by kernel_rfl) hb (by omega))) hr ?_
        refine dw_ready [20] (by kernel_rfl) (by simp) ?_
        refine ar_call 20 66 38 #[.int .u8 (l.getD q2 0)] rfl (fun _ => by kernel_rfl) (fun _ => by kernel_rfl) (R := RVl wl2.drew (.bool true)) (by have := rblank (x := l.getD q2 0) wl2.drew; rw [hbl] at this; exact this) (fun u w' h9 => hr.go h9.2) ?_ ar_nil
        rintro _ w21 ⟨rfl, hb22⟩
        replace hT := hT.trans (Touch.of_below hb22)
        replace hr := hr.go hb22
        refine dw_take 21 67 (.bool false) rfl (by kernel_rfl) (fun _ _ _ h => h) (fun _ => by kernel_rfl) (fun v hv _ => by kernel_rfl) hr ?_
        refine dw_take 22 68 (.bool false) rfl (by kernel_rfl) (fun _ _ _ h => h) (fun _ => by kernel_rfl) (fun v hv _ => by kernel_rfl) hr ?_
        refine dw_done (by kernel_rfl) ?_
        refine nw_then ?_
        refine cw_cond_f (fun _ => by kernel_rfl) ?_
        refine cw_exit ?_
        refine nw_exit_then ?_
        refine nw_exit_then ?_
        refine nw_exit_here ?_
        refine nw_then ?_
        refine cw_seq ?_
        refine cw_draw (fun v => Rw g v (rdC l q q2) 57) (by kernel_rfl) (hr) ?_
        replace hT := hT.trans (Touch.of_below (Below.refl _ _).drew)
        replace hr := hr.go (Below.refl _ _).drew
        refine dw_take 0 76 (.pointer (some ⟨g, 0, none⟩)) rfl (by kernel_rfl) (fun _ _ _ h => h) (fun _ => by kernel_rfl) (fun v hv _ => by kernel_rfl) hr ?_
        refine dw_take 1 77 (.pointer (some ⟨g, 0, none⟩)) rfl (by kernel_rfl) (fun _ _ _ h => h) (fun _ => by kernel_rfl) (fun v hv _ => by kernel_rfl) hr ?_
        refine dw_take 2 78 (.pointer (some ⟨g, 0, none⟩)) rfl (by kernel_rfl) (fun _ _ _ h => h) (fun _ => by kernel_rfl) (fun v hv _ => by kernel_rfl) hr ?_
        refine dw_take 3 79 (.string (strOfNums l)) rfl (by kernel_rfl) (fun _ _ _ h => h) (fun _ => by kernel_rfl) (fun v hv _ => ol_cell 9 _ ⟨g, 0, none⟩ _ _ rfl (by kernel_rfl) (by rw [cell_of_row _ _ _ _ _ _ hv]; rfl) Tryd.underlying9 rfl) hr ?_
        refine dw_take 4 80 (.pointer (some ⟨g, 0, none⟩)) rfl (by kernel_rfl) (fun _ _ _ h => h) (fun _ => by kernel_rfl) (fun v hv _ => by kernel_rfl) hr ?_
        refine dw_take 5 81 (.pointer (some ⟨g, 0, none⟩)) rfl (by kernel_rfl) (fun _ _ _ h => h) (fun _ => by kernel_rfl) (fun v hv _ => by kernel_rfl) hr ?_
        refine dw_take 6 82 (.pointer (some ⟨g, 1, none⟩)) rfl (by kernel_rfl) (fun _ _ _ h => h) (fun _ => by kernel_rfl) (fun v hv _ => by kernel_rfl) hr ?_
        refine dw_take 7 83 (.int .i64 ((q : Nat) : Int)) rfl (by kernel_rfl) (fun _ _ _ h => h) (fun _ => by kernel_rfl) (fun v hv _ => ol_cell 3 _ ⟨g, 1, none⟩ _ _ rfl (by kernel_rfl) (by rw [cell_of_row _ _ _ _ _ _ hv]; rfl) Tryd.underlying3 rfl) hr ?_
        refine dw_take 8 84 (.pointer (some ⟨g, 0, none⟩)) rfl (by kernel_rfl) (fun _ _ _ h => h) (fun _ => by kernel_rfl) (fun v hv _ => by kernel_rfl) hr ?_
        refine dw_take 9 85 (.pointer (some ⟨g, 0, none⟩)) rfl (by kernel_rfl) (fun _ _ _ h => h) (fun _ => by kernel_rfl) (fun v hv _ => by kernel_rfl) hr ?_
        refine dw_take 10 86 (.pointer (some ⟨g, 2, none⟩)) rfl (by kernel_rfl) (fun _ _ _ h => h) (fun _ => by kernel_rfl) (fun v hv _ => by kernel_rfl) hr ?_
        refine dw_take 11 87 (.int .i64 ((q2 : Nat) : Int)) rfl (by kernel_rfl) (fun _ _ _ h => h) (fun _ => by kernel_rfl) (fun v hv _ => ol_cell 3 _ ⟨g, 2, none⟩ _ _ rfl (by kernel_rfl) (by rw [cell_of_row _ _ _ _ _ _ hv]; rfl) Tryd.underlying3 rfl) hr ?_
        have by23 : Byt ((l.take q2).drop q) := (byt_drop (byt_take hb _) _)
        refine dw_take 12 88 (.string (strOfNums ((l.take q2).drop q))) rfl (by kernel_rfl) (fun _ _ _ h => h) (fun _ => by kernel_rfl) (fun v hv => (fun _ => ol_smid _ _ _ l q q2 rfl Tryd.underlying9 (by kernel_rfl) (by kernel_rfl) (by kernel_rfl) (by omega) (by omega))) hr ?_
        refine dw_take 13 2 (.string (strOfNums ((l.take q2).drop q))) rfl (by kernel_rfl) (fun _ _ _ h => h) (fun _ => by kernel_rfl) (fun v hv _ => by kernel_rfl) hr ?_
        refine dw_done (by kernel_rfl) ?_
        refine nw_then ?_
        refine cw_ret ?_
        refine nw_ret_body (.string (strOfNums ((l.take q2).drop q))) (fun _ => by kernel_rfl) ?_
        obtain ⟨z1, z2, z3⟩ := rd_end hq1 hk1 hk2 eq eq2
        refine ⟨_, rfl, by rw [z1], ?_, hT⟩
        rw [z2, z3]; exact hr
      | false =>
        refine cw_seq ?_
        refine cw_seq ?_
        refine cw_draw (fun v => Rw g v (rdC l q q2) 57) (by kernel_rfl) (hr) ?_
        replace hT := hT.trans (Touch.of_below (Below.refl _ _).drew)
        replace hr := hr.go (Below.refl _ _).drew
        refine dw_take 0 46 (.pointer (some ⟨g, 0, none⟩)) rfl (by kernel_rfl) (fun _ _ _ h => h) (fun _ => by kernel_rfl) (fun v hv _ => by kernel_rfl) hr ?_
        refine dw_take 1 47 (.pointer (some ⟨g, 0, none⟩)) rfl (by kernel_rfl) (fun _ _ _ h => h) (fun _ => by kernel_rfl) (fun v hv _ => by kernel_rfl) hr ?_
        refine dw_take 2 48 (.pointer (some ⟨g, 2, none⟩)) rfl (by kernel_rfl) (fun _ _ _ h => h) (fun _ => by kernel_rfl) (fun v hv _ => by kernel_rfl) hr ?_
        refine dw_take 3 49 (.int .i64 ((q2 : Nat) : Int)) rfl (by kernel_rfl) (fun _ _ _ h => h) (fun _ => by kernel_rfl) (fun v hv _ => ol_cell 3 _ ⟨g, 2, none⟩ _ _ rfl (by kernel_rfl) (by rw [cell_of_row _ _ _ _ _ _ hv]; rfl) Tryd.underlying3 rfl) hr ?_
        refine dw_take 4 50 (.pointer (some ⟨g, 0, none⟩)) rfl (by kernel_rfl) (fun _ _ _ h => h) (fun _ => by kernel_rfl) (fun v hv _ => by kernel_rfl) hr ?_
        refine dw_take 5 51 (.pointer (some ⟨g, 0, none⟩)) rfl (by kernel_rfl) (fun _ _ _ h => h) (fun _ => by kernel_rfl) (fun v hv _ => by kernel_rfl) hr ?_
        refine dw_take 6 52 (.pointer (some ⟨g, 0, none⟩)) rfl (by kernel_rfl) (fun _ _ _ h => h) (fun _ => by kernel_rfl) (fun v hv _ => by kernel_rfl) hr ?_
        refine dw_take 7 53 (.string (strOfNums l)) rfl (by kernel_rfl) (fun _ _ _ h => h) (fun _ => by kernel_rfl) (fun v hv _ => ol_cell 9 _ ⟨g, 0, none⟩ _ _ rfl (by kernel_rfl) (by rw [cell_of_row _ _ _ _ _ _ hv]; rfl) Tryd.underlying9 rfl) hr ?_
        refine dw_take 8 54 (.int .i64 ((l.length : Nat) : Int)) rfl (by kernel_rfl) (fun _ _ _ h => h) (fun _ => by kernel_rfl) (fun v hv => (fun _ => ol_len9 _ l rfl Tryd.underlying9 (by kernel_rfl))) hr ?_
        refine dw_take 9 55 (.bool true) rfl (by kernel_rfl) (fun _ _ _ h => h) (fun _ => by kernel_rfl) (fun v hv => (fun _ => ol_conv (v := .bool (decide (((q2 : Nat) : Int) < ((l.length : Nat) : Int)))) (by kernel_rfl) (congrArg Value.bool (decide_eq_true (by omega))))) hr ?_
        refine dw_take 10 56 (.bool true) rfl (by kernel_rfl) (fun _ _ _ h => h) (fun _ => by kernel_rfl) (fun v hv _ => by kernel_rfl) hr ?_
        refine dw_take 11 57 (.pointer (some ⟨g, 0, none⟩)) rfl (by kernel_rfl) (fun _ _ _ h => h) (fun _ => by kernel_rfl) (fun v hv _ => by kernel_rfl) hr ?_
        refine dw_take 12 58 (.pointer (some ⟨g, 0, none⟩)) rfl (by kernel_rfl) (fun _ _ _ h => h) (fun _ => by kernel_rfl) (fun v hv _ => by kernel_rfl) hr ?_
        refine dw_take 13 59 (.pointer (some ⟨g, 0, none⟩)) rfl (by kernel_rfl) (fun _ _ _ h => h) (fun _ => by kernel_rfl) (fun v hv _ => by kernel_rfl) hr ?_
        refine dw_take 14 60 (.string (strOfNums l)) rfl (by kernel_rfl) (fun _ _ _ h => h) (fun _ => by kernel_rfl) (fun v hv _ => ol_cell 9 _ ⟨g, 0, none⟩ _ _ rfl (by kernel_rfl) (by rw [cell_of_row _ _ _ _ _ _ hv]; rfl) Tryd.underlying9 rfl) hr ?_
        refine dw_take 15 61 (.pointer (some ⟨g, 0, none⟩)) rfl (by kernel_rfl) (fun _ _ _ h => h) (fun _ => by kernel_rfl) (fun v hv _ => by kernel_rfl) hr ?_
        refine dw_take 16 62 (.pointer (some ⟨g, 0, none⟩)) rfl (by kernel_rfl) (fun _ _ _ h => h) (fun _ => by kernel_rfl) (fun v hv _ => by kernel_rfl) hr ?_
        refine dw_take 17 63 (.pointer (some ⟨g, 2, none⟩)) rfl (by kernel_rfl) (fun _ _ _ h => h) (fun _ => by kernel_rfl) (fun v hv _ => by kernel_rfl) hr ?_
        refine dw_take 18 64 (.int .i64 ((q2 : Nat) : Int)) rfl (by kernel_rfl) (fun _ _ _ h => h) (fun _ => by kernel_rfl) (fun v hv _ => ol_cell 3 _ ⟨g, 2, none⟩ _ _ rfl (by kernel_rfl) (by rw [cell_of_row _ _ _ _ _ _ hv]; rfl) Tryd.underlying3 rfl) hr ?_
        refine dw_take 19 65 (.int .u8 (l.getD q2 0)) rfl (by kernel_rfl) (fun _ _ _ h => h) (fun _ => by kernel_rfl) (fun v hv => (fun _ => ol_sidx _ _ l q2 rfl Tryd.underlying9 (by kernel_rfl) (by kernel_rfl) hb (by omega))) hr ?_
        refine dw_ready [20] (by kernel_rfl) (by simp) ?_
        refine ar_call 20 66 38 #[.int .u8 (l.getD q2 0)] rfl (fun _ => by kernel_rfl) (fun _ => by kernel_rfl) (R := RVl wl2.drew (.bool false)) (by have := rblank (x := l.getD q2 0) wl2.drew; rw [hbl] at this; exact this) (fun u w' h9 => hr.go h9.2) ?_ ar_nil
        rintro _ w24 ⟨rfl, hb25⟩
        replace hT := hT.trans (Touch.of_below hb25)
        replace hr := hr.go hb25
        refine dw_take 21 67 (.bool true) rfl (by kernel_rfl) (fun _ _ _ h => h) (fun _ => by kernel_rfl) (fun v hv _ => by kernel_rfl) hr ?_
        refine dw_take 22 68 (.bool true) rfl (by kernel_rfl) (fun _ _ _ h => h) (fun _ => by kernel_rfl) (fun v hv _ => by kernel_rfl) hr ?_
        refine dw_done (by kernel_rfl) ?_
        refine nw_then ?_
        refine cw_cond_t (fun _ => by kernel_rfl) ?_
        refine cw_skip ?_
        refine nw_then ?_
        refine cw_block ?_
        refine cw_region ?_
        refine rw_p 69 (.pointer (some ⟨g, 0, none⟩)) (fun _ => by kernel_rfl) (fun _ => by kernel_rfl) ?_
        refine rw_p 70 (.pointer (some ⟨g, 0, none⟩)) (fun _ => by kernel_rfl) (fun _ => by kernel_rfl) ?_
        refine rw_p 71 (.pointer (some ⟨g, 2, none⟩)) (fun _ => by kernel_rfl) (fun _ => by kernel_rfl) ?_
        refine rw_p 72 (.int .i64 ((q2 : Nat) : Int)) (fun _ => by kernel_rfl) (fun _ => ol_cell 3 _ ⟨g, 2, none⟩ _ _ rfl (by kernel_rfl) (by rw [cell_of_row _ _ _ _ _ _ hr]; rfl) Tryd.underlying3 rfl) ?_
        refine rw_p 73 (.int .i64 ((q2 + 1 : Nat) : Int)) (fun _ => by kernel_rfl) (fun _ => ol_conv (v := .int .i64 (IntKind.i64.wrap (((q2 : Nat) : Int) + (1 : Int)))) (by kernel_rfl) (congrArg (Value.int .i64) (show IntKind.i64.wrap (((q2 : Nat) : Int) + (1 : Int)) = ((q2 + 1 : Nat) : Int) from (wrap64 (by omega) (by omega)).trans (by omega)))) ?_
        refine rw_p 74 (.pointer (some ⟨g, 0, none⟩)) (fun _ => by kernel_rfl) (fun _ => by kernel_rfl) ?_
        refine rw_p 75 (.pointer (some ⟨g, 2, none⟩)) (fun _ => by kernel_rfl) (fun _ => by kernel_rfl) ?_
        refine rw_put g #[.string (strOfNums l), .int .i64 ((q : Nat) : Int), .int .i64 ((q2 + 1 : Nat) : Int)] (fun _ => by kernel_rfl) (fun _ => ol_cellrow 3 _ _ g 2 _ _ (.int .i64 ((q2 + 1 : Nat) : Int)) rfl (by kernel_rfl) (by kernel_rfl) hr (by kernel_rfl) (Nat.le_of_ble_eq_true rfl) rfl rfl rfl) ?_
        intro w26 hp27
        replace hT := hT.trans hp27.touch
        replace hr := hr.put hp27
        refine rw_nil ?_
        refine nw_block ?_
        refine nw_round (X := Nat) (E := fun x9 => [(0, .pointer (some ⟨g, 0, none⟩))]) (R := fun x9 v => q ≤ x9 ∧ x9 ≤ l.length ∧ (∀ j, q ≤ j → j < x9 → bl (l.getD j 0) = false) ∧ Rw g v (rdC l q x9) 57 ∧ Touch g w v) (μ := fun x9 => l.length - x9) (x := q2) (q2 + 1) (by exact ⟨fun _ => by kernel_rfl, trivial⟩) ⟨by omega, by omega, fun j h1 h2 => ?_, hr, hT⟩ (by show l.length - (q2 + 1) < l.length - q2; omega)
        by_cases hj : j = q2
        · subst hj; exact hbl
        · exact hk3 j h1 (by omega)
    · skip
      have eq2 := rn_from (l := l) hk1 hk2 hk3 (.inl (by omega))
      refine cw_seq ?_
      refine cw_seq ?_
      refine cw_draw (fun v => Rw g v (rdC l q q2) 57) (by kernel_rfl) (hr) ?_
      replace hT := hT.trans (Touch.of_below (Below.refl _ _).drew)
      replace hr := hr.go (Below.refl _ _).drew
      refine dw_take 0 46 (.pointer (some ⟨g, 0, none⟩)) rfl (by kernel_rfl) (fun _ _ _ h => h) (fun _ => by kernel_rfl) (fun v hv _ => by kernel_rfl) hr ?_
      refine dw_take 1 47 (.pointer (some ⟨g, 0, none⟩)) rfl (by kernel_rfl) (fun _ _ _ h => h) (fun _ => by kernel_rfl) (fun v hv _ => by kernel_rfl) hr ?_
      refine dw_take 2 48 (.pointer (some ⟨g, 2, none⟩)) rfl (by kernel_rfl) (fun _ _ _ h => h) (fun _ => by kernel_rfl) (fun v hv _ => by kernel_rfl) hr ?_
      refine dw_take 3 49 (.int .i64 ((q2 : Nat) : Int)) rfl (by kernel_rfl) (fun _ _ _ h => h) (fun _ => by kernel_rfl) (fun v hv _ => ol_cell 3 _ ⟨g, 2, none⟩ _ _ rfl (by kernel_rfl) (by rw [cell_of_row _ _ _ _ _ _ hv]; rfl) Tryd.underlying3 rfl) hr ?_
      refine dw_take 4 50 (.pointer (some ⟨g, 0, none⟩)) rfl (by kernel_rfl) (fun _ _ _ h => h) (fun _ => by kernel_rfl) (fun v hv _ => by kernel_rfl) hr ?_
      refine dw_take 5 51 (.pointer (some ⟨g, 0, none⟩)) rfl (by kernel_rfl) (fun _ _ _ h => h) (fun _ => by kernel_rfl) (fun v hv _ => by kernel_rfl) hr ?_
      refine dw_take 6 52 (.pointer (some ⟨g, 0, none⟩)) rfl (by kernel_rfl) (fun _ _ _ h => h) (fun _ => by kernel_rfl) (fun v hv _ => by kernel_rfl) hr ?_
      refine dw_take 7 53 (.string (strOfNums l)) rfl (by kernel_rfl) (fun _ _ _ h => h) (fun _ => by kernel_rfl) (fun v hv _ => ol_cell 9 _ ⟨g, 0, none⟩ _ _ rfl (by kernel_rfl) (by rw [cell_of_row _ _ _ _ _ _ hv]; rfl) Tryd.underlying9 rfl) hr ?_
      refine dw_take 8 54 (.int .i64 ((l.length : Nat) : Int)) rfl (by kernel_rfl) (fun _ _ _ h => h) (fun _ => by kernel_rfl) (fun v hv => (fun _ => ol_len9 _ l rfl Tryd.underlying9 (by kernel_rfl))) hr ?_
      refine dw_take 9 55 (.bool false) rfl (by kernel_rfl) (fun _ _ _ h => h) (fun _ => by kernel_rfl) (fun v hv => (fun _ => ol_conv (v := .bool (decide (((q2 : Nat) : Int) < ((l.length : Nat) : Int)))) (by kernel_rfl) (congrArg Value.bool (decide_eq_false (by omega))))) hr ?_
      refine dw_take 10 56 (.bool false) rfl (by kernel_rfl) (fun _ _ _ h => h) (fun _ => by kernel_rfl) (fun v hv _ => by kernel_rfl) hr ?_
      refine dw_off 11 57 rfl (by kernel_rfl) (fun _ _ _ h => h) (fun _ => by kernel_rfl) hr ?_
      refine dw_off 12 58 rfl (by kernel_rfl) (fun _ _ _ h => h) (fun _ => by kernel_rfl) hr ?_
      refine dw_off 13 59 rfl (by kernel_rfl) (fun _ _ _ h => h) (fun _ => by kernel_rfl) hr ?_
      refine dw_off 14 60 rfl (by kernel_rfl) (fun _ _ _ h => h) (fun _ => by kernel_rfl) hr ?_
      refine dw_off 15 61 rfl (by kernel_rfl) (fun _ _ _ h => h) (fun _ => by kernel_rfl) hr ?_
      refine dw_off 16 62 rfl (by kernel_rfl) (fun _ _ _ h => h) (fun _ => by kernel_rfl) hr ?_
      refine dw_off 17 63 rfl (by kernel_rfl) (fun _ _ _ h => h) (fun _ => by kernel_rfl) hr ?_
      refine dw_off 18 64 rfl (by kernel_rfl) (fun _ _ _ h => h) (fun _ => by kernel_rfl) hr ?_
      refine dw_off 19 65 rfl (by kernel_rfl) (fun _ _ _ h => h) (fun _ => by kernel_rfl) hr ?_
      refine dw_off 20 66 rfl (by kernel_rfl) (fun _ _ _ h => h) (fun _ => by kernel_rfl) hr ?_
      refine dw_off 21 67 rfl (by kernel_rfl) (fun _ _ _ h => h) (fun _ => by kernel_rfl) hr ?_
      refine dw_take 22 68 (.bool false) rfl (by kernel_rfl) (fun _ _ _ h => h) (fun _ => by kernel_rfl) (fun v hv _ => by kernel_rfl) hr ?_
      refine dw_done (by kernel_rfl) ?_
      refine nw_then ?_
      refine cw_cond_f (fun _ => by kernel_rfl) ?_
      refine cw_exit ?_
      refine nw_exit_then ?_
      refine nw_exit_then ?_
      refine nw_exit_here ?_
      refine nw_then ?_
      refine cw_seq ?_
      refine cw_draw (fun v => Rw g v (rdC l q q2) 57) (by kernel_rfl) (hr) ?_
      replace hT := hT.trans (Touch.of_below (Below.refl _ _).drew)
      replace hr := hr.go (Below.refl _ _).drew
      refine dw_take 0 76 (.pointer (some ⟨g, 0, none⟩)) rfl (by kernel_rfl) (fun _ _ _ h => h) (fun _ => by kernel_rfl) (fun v hv _ => by kernel_rfl) hr ?_
      refine dw_take 1 77 (.pointer (some ⟨g, 0, none⟩)) rfl (by kernel_rfl) (fun _ _ _ h => h) (fun _ => by kernel_rfl) (fun v hv _ => by kernel_rfl) hr ?_
      refine dw_take 2 78 (.pointer (some ⟨g, 0, none⟩)) rfl (by kernel_rfl) (fun _ _ _ h => h) (fun _ => by kernel_rfl) (fun v hv _ => by kernel_rfl) hr ?_
      refine dw_take 3 79 (.string (strOfNums l)) rfl (by kernel_rfl) (fun _ _ _ h => h) (fun _ => by kernel_rfl) (fun v hv _ => ol_cell 9 _ ⟨g, 0, none⟩ _ _ rfl (by kernel_rfl) (by rw [cell_of_row _ _ _ _ _ _ hv]; rfl) Tryd.underlying9 rfl) hr ?_
      refine dw_take 4 80 (.pointer (some ⟨g, 0, none⟩)) rfl (by kernel_rfl) (fun _ _ _ h => h) (fun _ => by kernel_rfl) (fun v hv _ => by kernel_rfl) hr ?_
      refine dw_take 5 81 (.pointer (some ⟨g, 0, none⟩)) rfl (by kernel_rfl) (fun _ _ _ h => h) (fun _ => by kernel_rfl) (fun v hv _ => by kernel_rfl) hr ?_
      refine dw_take 6 82 (.pointer (some ⟨g, 1, none⟩)) rfl (by kernel_rfl) (fun _ _ _ h => h) (fun _ => by kernel_rfl) (fun v hv _ => by kernel_rfl) hr ?_
      refine dw_take 7 83 (.int .i64 ((q : Nat) : Int)) rfl (by kernel_rfl) (fun _ _ _ h => h) (fun _ => by kernel_rfl) (fun v hv _ => ol_cell 3 _ ⟨g, 1, none⟩ _ _ rfl (by kernel_rfl) (by rw [cell_of_row _ _ _ _ _ _ hv]; rfl) Tryd.underlying3 rfl) hr ?_
      refine dw_take 8 84 (.pointer (some ⟨g, 0, none⟩)) rfl (by kernel_rfl) (fun _ _ _ h => h) (fun _ => by kernel_rfl) (fun v hv _ => by kernel_rfl) hr ?_
      refine dw_take 9 85 (.pointer (some ⟨g, 0, none⟩)) rfl (by kernel_rfl) (fun _ _ _ h => h) (fun _ => by kernel_rfl) (fun v hv _ => by kernel_rfl) hr ?_
      refine dw_take 10 86 (.pointer (some ⟨g, 2, none⟩)) rfl (by kernel_rfl) (fun _ _ _ h => h) (fun _ => by kernel_rfl) (fun v hv _ => by kernel_rfl) hr ?_
      refine dw_take 11 87 (.int .i64 ((q2 : Nat) : Int)) rfl (by kernel_rfl) (fun _ _ _ h => h) (fun _ => by kernel_rfl) (fun v hv _ => ol_cell 3 _ ⟨g, 2, none⟩ _ _ rfl (by kernel_rfl) (by rw [cell_of_row _ _ _ _ _ _ hv]; rfl) Tryd.underlying3 rfl) hr ?_
      have by28 : Byt ((l.take q2).drop q) := (byt_drop (byt_take hb _) _)
      refine dw_take 12 88 (.string (strOfNums ((l.take q2).drop q))) rfl (by kernel_rfl) (fun _ _ _ h => h) (fun _ => by kernel_rfl) (fun v hv => (fun _ => ol_smid _ _ _ l q q2 rfl Tryd.underlying9 (by kernel_rfl) (by kernel_rfl) (by kernel_rfl) (by omega) (by omega))) hr ?_
      refine dw_take 13 2 (.string (strOfNums ((l.take q2).drop q))) rfl (by kernel_rfl) (fun _ _ _ h => h) (fun _ => by kernel_rfl) (fun v hv _ => by kernel_rfl) hr ?_
      refine dw_done (by kernel_rfl) ?_
      refine nw_then ?_
      refine cw_ret ?_
      refine nw_ret_body (.string (strOfNums ((l.take q2).drop q))) (fun _ => by kernel_rfl) ?_
      obtain ⟨z1, z2, z3⟩ := rd_end hq1 hk1 hk2 eq eq2
      refine ⟨_, rfl, by rw [z1], ?_, hT⟩
      rw [z2, z3]; exact hr
set_option maxHeartbeats 1000000 in
theorem rpushed {m k : Nat} (hm : m < W64) (hk : 1 ≤ k ∧ k ≤ 8) (w : World) : Calls Tryd.prog 42 #[.int .u64 ((m : Nat) : Int), .int .i64 ((k : Nat) : Int)] w fun e w' => ∃ v, e = .returned v ∧ RPu w m k v w' := by
  obtain ⟨hk1, hk8⟩ := hk
  have hfi := fits_iff hm hk8
  have hB : Bl w w := Bl.refl w
  refine cw_enter Tryd.func42 rfl 25 rfl ?_
  show CW _ _ _ _ _ _ _ [(0, .int .u64 ((m : Nat) : Int)), (1, .int .i64 ((k : Nat) : Int))] _
  refine cw_seq ?_
  refine cw_region ?_
  refine rw_p 4 (.slice none 0 0) (fun _ => by kernel_rfl) (fun _ => by kernel_rfl) ?_
  refine rw_p 5 (.bool false) (fun _ => by kernel_rfl) (fun _ => by kernel_rfl) ?_
  refine rw_nil ?_
  refine nw_then ?_
  refine cw_seq ?_
  refine cw_region ?_
  refine rw_p 8 (.int .u64 ((m : Nat) : Int)) (fun _ => by kernel_rfl) (fun _ => by kernel_rfl) ?_
  refine rw_call 9 55 #[.int .u64 ((m : Nat) : Int)] (fun _ => by kernel_rfl) (fun _ => by kernel_rfl) (R := RSl w (bek 8 m)) (rwkey hm w) ?_
  rintro _ w4 ⟨⟨a1, n2, c3, rfl, ha5⟩, hb6⟩
  replace hB := hB.go hb6
  obtain rfl : 8 = n2 := (bek_len 8 m).symm.trans ha5.l
  obtain ⟨gb7, of8, rfl, hc9⟩ := ha5.at0 (k := 0) (by omega)
  refine rw_p 6 (.slice (some ⟨gb7, of8, none⟩) 8 c3) (fun _ => by kernel_rfl) (fun _ => by kernel_rfl) ?_
  refine rw_nil ?_
  refine nw_then ?_
  refine cw_seq ?_
  refine cw_seq ?_
  refine cw_region ?_
  refine rw_p 7 (.int .i64 0) (fun _ => by kernel_rfl) (fun _ => by kernel_rfl) ?_
  refine rw_nil ?_
  refine nw_then ?_
  refine cw_block ?_
  refine cw_loop (X := Nat) (fun q => [(1, .int .i64 ((k : Nat) : Int)), (6, .slice (some ⟨gb7, of8, none⟩) 8 c3), (7, .int .i64 ((q : Nat) : Int))]) (fun q v => q ≤ 8 - k ∧ (∀ j, j < q → (bek 8 m).getD j 0 = 0) ∧ Ag v (some ⟨gb7, of8, none⟩) 8 c3 (bek 8 m) ∧ Bl w v) (fun q => 8 - q) 0 (by exact ⟨fun _ => by kernel_rfl, ⟨fun _ => by kernel_rfl, ⟨fun _ => by kernel_rfl, trivial⟩⟩⟩) ⟨by omega, fun j h => by omega, ha5, hB⟩ ?_
  clear ha5 hB
  rintro i wl ⟨hi, hz, ha5, hB⟩
  by_cases hlt : i < 8 - k
  · skip
    have hc10 := ha5.at0 (k := i) (by omega)
    obtain ⟨_, _, e9, hc10⟩ := hc10
    cases e9
    refine cw_seq ?_
    refine cw_seq ?_
    refine cw_region ?_
    refine rw_p 10 (.int .i64 ((i : Nat) : Int)) (fun _ => by kernel_rfl) (fun _ => by kernel_rfl) ?_
    refine rw_p 11 (.int .i64 ((k : Nat) : Int)) (fun _ => by kernel_rfl) (fun _ => by kernel_rfl) ?_
    refine rw_p 12 (.int .i64 ((8 - k : Nat) : Int)) (fun _ => by kernel_rfl) (fun _ => ol_conv (v := .int .i64 (IntKind.i64.wrap ((8 : Int) - ((k : Nat) : Int)))) (by kernel_rfl) (congrArg (Value.int .i64) (show IntKind.i64.wrap ((8 : Int) - ((k : Nat) : Int)) = ((8 - k : Nat) : Int) from (wrap64 (by omega) (by omega)).trans (by omega)))) ?_
    refine rw_p 13 (.bool true) (fun _ => by kernel_rfl) (fun _ => ol_conv (v := .bool (decide (((i : Nat) : Int) < ((8 - k : Nat) : Int)))) (by kernel_rfl) (congrArg Value.bool (decide_eq_true (by omega)))) ?_
    refine rw_nil ?_
    refine nw_then ?_
    refine cw_cond_t (fun _ => by kernel_rfl) ?_
    refine cw_skip ?_
    refine nw_then ?_
    refine cw_seq ?_
    refine cw_block ?_
    refine cw_seq ?_
    refine cw_region ?_
    refine rw_p 16 (.slice (some ⟨gb7, of8, none⟩) 8 c3) (fun _ => by kernel_rfl) (fun _ => by kernel_rfl) ?_
    refine rw_p 17 (.int .i64 ((i : Nat) : Int)) (fun _ => by kernel_rfl) (fun _ => by kernel_rfl) ?_
    refine rw_p 18 (.pointer (some ⟨gb7, of8 + i * 1, none⟩)) (fun _ => by kernel_rfl) (fun _ => ol_index 32 _ _ gb7 of8 i 8 c3 1 5 rfl (by kernel_rfl) (by kernel_rfl) (by omega) Tryd.underlying32 (by kernel_rfl)) ?_
    refine rw_p 19 (.int .u8 ((bek 8 m).getD i 0)) (fun _ => by kernel_rfl) (fun _ => ol_cell 5 _ ⟨gb7, of8 + i * 1, none⟩ _ _ rfl (by kernel_rfl) hc10 Tryd.underlying5 rfl) ?_
    refine rw_p 20 (.bool (!(((bek 8 m).getD i 0 : Int) == (0 : Int)))) (fun _ => by kernel_rfl) (fun _ => by kernel_rfl) ?_
    refine rw_nil ?_
    refine nw_then ?_
    cases hq11 : (!(((bek 8 m).getD i 0 : Int) == (0 : Int))) with
    | true =>
      refine cw_cond_t (fun _ => by kernel_rfl) ?_
      refine cw_seq ?_
      refine cw_region ?_
      refine rw_p 4 (.slice none 0 0) (fun _ => by kernel_rfl) (fun _ => by kernel_rfl) ?_
      refine rw_p 5 (.bool false) (fun _ => by kernel_rfl) (fun _ => by kernel_rfl) ?_
      refine rw_nil ?_
      refine nw_then ?_
      refine cw_ret ?_
      refine nw_ret_block ?_
      refine nw_ret_then ?_
      refine nw_ret_then ?_
      refine nw_ret_block ?_
      refine nw_ret_then ?_
      unfold RPu
      have hnf : ¬ m < 256 ^ k := fun hf => by have := hfi.2 hf i hlt; rw [this] at hq11; exact absurd hq11 (by decide)
      rw [decide_eq_false hnf]
      refine nw_ret_body (.tuple #[.slice none 0 0, .bool false]) (fun _ => by kernel_rfl) ?_
      exact ⟨_, rfl, _, _, _, rfl, fun h => absurd h hnf, hB⟩
    | false =>
      refine cw_cond_f (fun _ => by kernel_rfl) ?_
      refine cw_skip ?_
      refine nw_block ?_
      refine nw_then ?_
      refine cw_region ?_
      refine rw_p 14 (.int .i64 ((i : Nat) : Int)) (fun _ => by kernel_rfl) (fun _ => by kernel_rfl) ?_
      refine rw_p 15 (.int .i64 ((i + 1 : Nat) : Int)) (fun _ => by kernel_rfl) (fun _ => ol_conv (v := .int .i64 (IntKind.i64.wrap (((i : Nat) : Int) + (1 : Int)))) (by kernel_rfl) (congrArg (Value.int .i64) (show IntKind.i64.wrap (((i : Nat) : Int) + (1 : Int)) = ((i + 1 : Nat) : Int) from (wrap64 (by omega) (by omega)).trans (by omega)))) ?_
      refine rw_p 7 (.int .i64 ((i + 1 : Nat) : Int)) (fun _ => by kernel_rfl) (fun _ => by kernel_rfl) ?_
      refine rw_nil ?_
      refine nw_round (X := Nat) (E := fun q => [(1, .int .i64 ((k : Nat) : Int)), (6, .slice (some ⟨gb7, of8, none⟩) 8 c3), (7, .int .i64 ((q : Nat) : Int))]) (R := fun q v => q ≤ 8 - k ∧ (∀ j, j < q → (bek 8 m).getD j 0 = 0) ∧ Ag v (some ⟨gb7, of8, none⟩) 8 c3 (bek 8 m) ∧ Bl w v) (μ := fun q => 8 - q) (x := i) (i + 1) (by exact ⟨fun _ => by kernel_rfl, ⟨fun _ => by kernel_rfl, ⟨fun _ => by kernel_rfl, trivial⟩⟩⟩) ⟨by omega, fun j h => ?_, ha5, hB⟩ (by show 8 - (i + 1) < 8 - i; omega)
      by_cases hj : j = i
      · subst hj; simpa using hq11
      · exact hz j (by omega)
  · skip
    refine cw_seq ?_
    refine cw_seq ?_
    refine cw_region ?_
    refine rw_p 10 (.int .i64 ((i : Nat) : Int)) (fun _ => by kernel_rfl) (fun _ => by kernel_rfl) ?_
    refine rw_p 11 (.int .i64 ((k : Nat) : Int)) (fun _ => by kernel_rfl) (fun _ => by kernel_rfl) ?_
    refine rw_p 12 (.int .i64 ((8 - k : Nat) : Int)) (fun _ => by kernel_rfl) (fun _ => ol_conv (v := .int .i64 (IntKind.i64.wrap ((8 : Int) - ((k : Nat) : Int)))) (by kernel_rfl) (congrArg (Value.int .i64) (show IntKind.i64.wrap ((8 : Int) - ((k : Nat) : Int)) = ((8 - k : Nat) : Int) from (wrap64 (by omega) (by omega)).trans (by omega)))) ?_
    refine rw_p 13 (.bool false) (fun _ => by kernel_rfl) (fun _ => ol_conv (v := .bool (decide (((i : Nat) : Int) < ((8 - k : Nat) : Int)))) (by kernel_rfl) (congrArg Value.bool (decide_eq_false (by omega)))) ?_
    refine rw_nil ?_
    refine nw_then ?_
    refine cw_cond_f (fun _ => by kernel_rfl) ?_
    refine cw_exit ?_
    refine nw_exit_then ?_
    refine nw_exit_then ?_
    refine nw_exit_here ?_
    refine nw_then ?_
    refine cw_seq ?_
    refine cw_region ?_
    refine rw_p 21 (.slice (some ⟨gb7, of8, none⟩) 8 c3) (fun _ => by kernel_rfl) (fun _ => by kernel_rfl) ?_
    refine rw_p 22 (.int .i64 ((k : Nat) : Int)) (fun _ => by kernel_rfl) (fun _ => by kernel_rfl) ?_
    refine rw_p 23 (.int .i64 ((8 - k : Nat) : Int)) (fun _ => by kernel_rfl) (fun _ => ol_conv (v := .int .i64 (IntKind.i64.wrap ((8 : Int) - ((k : Nat) : Int)))) (by kernel_rfl) (congrArg (Value.int .i64) (show IntKind.i64.wrap ((8 : Int) - ((k : Nat) : Int)) = ((8 - k : Nat) : Int) from (wrap64 (by omega) (by omega)).trans (by omega)))) ?_
    have ha12 := ha5.from (k := 8 - k) (by omega)
    refine rw_p 24 (.slice (cutA (some ⟨gb7, of8, none⟩) (8 - k) c3) (8 - (8 - k)) (c3 - (8 - k))) (fun _ => by kernel_rfl) (fun _ => ol_from _ _ (some ⟨gb7, of8, none⟩) 8 c3 (8 - k) rfl (by kernel_rfl) (by kernel_rfl) (by omega) ha5.cap) ?_
    refine rw_p 4 (.slice (cutA (some ⟨gb7, of8, none⟩) (8 - k) c3) (8 - (8 - k)) (c3 - (8 - k))) (fun _ => by kernel_rfl) (fun _ => by kernel_rfl) ?_
    refine rw_p 5 (.bool true) (fun _ => by kernel_rfl) (fun _ => by kernel_rfl) ?_
    refine rw_nil ?_
    refine nw_then ?_
    refine cw_ret ?_
    unfold RPu
    have hf : m < 256 ^ k := hfi.1 fun j hj => hz j (by omega)
    rw [decide_eq_true hf]
    refine nw_ret_body (.tuple #[.slice (cutA (some ⟨gb7, of8, none⟩) (8 - k) c3) (8 - (8 - k)) (c3 - (8 - k)), .bool true]) (fun _ => by kernel_rfl) ?_
    rw [bek8 hk8] at ha12
    exact ⟨_, rfl, _, _, _, rfl, fun _ => ha12, hB⟩
set_option maxHeartbeats 1000000 in
theorem rwidth {l : List Int} (hb : Byt l) (w : World) : Calls Tryd.prog 39 #[.string (strOfNums l)] w fun e w' => ∃ v, e = .returned v ∧ RVl w (.int .i64 ((wdW l : Nat) : Int)) v w' := by
  have hB : Bl w w := Bl.refl w
  refine cw_enter Tryd.func39 rfl 25 rfl ?_
  show CW _ _ _ _ _ _ _ [(0, .string (strOfNums l))] _
  refine cw_seq ?_
  refine cw_region ?_
  refine rw_p 2 (.int .i64 0) (fun _ => by kernel_rfl) (fun _ => by kernel_rfl) ?_
  refine rw_nil ?_
  refine nw_then ?_
  refine cw_seq ?_
  refine cw_seq ?_
  refine cw_region ?_
  refine rw_p 3 (.string (strOfNums l)) (fun _ => by kernel_rfl) (fun _ => by kernel_rfl) ?_
  refine rw_p 4 (.int .i64 ((l.length : Nat) : Int)) (fun _ => by kernel_rfl) (fun _ => ol_len9 _ l rfl Tryd.underlying9 (by kernel_rfl)) ?_
  refine rw_p 5 (.bool (((l.length : Nat) : Int) == (5 : Int))) (fun _ => by kernel_rfl) (fun _ => by kernel_rfl) ?_
  refine rw_p 6 (.bool (((l.length : Nat) : Int) == (5 : Int))) (fun _ => by kernel_rfl) (fun _ => by kernel_rfl) ?_
  cases hq1 : (((l.length : Nat) : Int) == (5 : Int)) with
  | true =>
    have dhq1 := eq_of_beq hq1
    refine rw_p 7 (.string (strOfNums l)) (fun _ => by kernel_rfl) (fun _ => by kernel_rfl) ?_
    have by2 : Byt (l.take 4) := (byt_take hb _)
    refine rw_p 8 (.string (strOfNums (l.take 4))) (fun _ => by kernel_rfl) (fun _ => ol_sto _ _ l 4 rfl Tryd.underlying9 (by kernel_rfl) (by kernel_rfl) (by omega)) ?_
    refine rw_p 9 (.bool (decide (l.take 4 = pushW))) (fun _ => by kernel_rfl) (fun _ => ol_eqS 9 _ _ _ (l.take 4) pushW rfl (by kernel_rfl) (by kernel_rfl) by2 (byt_lit (by decide))) ?_
    refine rw_p 10 (.bool (decide (l.take 4 = pushW))) (fun _ => by kernel_rfl) (fun _ => by kernel_rfl) ?_
    refine rw_p 11 (.bool (decide (l.take 4 = pushW))) (fun _ => by kernel_rfl) (fun _ => by kernel_rfl) ?_
    cases hq3 : (decide (l.take 4 = pushW)) with
    | true =>
      have dhq3 := of_decide_eq_true hq3
      refine rw_p 12 (.string (strOfNums l)) (fun _ => by kernel_rfl) (fun _ => by kernel_rfl) ?_
      refine rw_p 13 (.int .u8 (l.getD 4 0)) (fun _ => by kernel_rfl) (fun _ => ol_sidx _ _ l 4 rfl Tryd.underlying9 (by kernel_rfl) (by kernel_rfl) hb (by omega)) ?_
      refine rw_p 14 (.bool (decide ((l.getD 4 0 : Int) ≥ (49 : Int)))) (fun _ => by kernel_rfl) (fun _ => by kernel_rfl) ?_
      refine rw_p 15 (.bool (decide ((l.getD 4 0 : Int) ≥ (49 : Int)))) (fun _ => by kernel_rfl) (fun _ => by kernel_rfl) ?_
      refine rw_p 16 (.bool (decide ((l.getD 4 0 : Int) ≥ (49 : Int)))) (fun _ => by kernel_rfl) (fun _ => by kernel_rfl) ?_
      cases hq4 : (decide ((l.getD 4 0 : Int) ≥ (49 : Int))) with
      | true =>
        have dhq4 := of_decide_eq_true hq4
        refine rw_p 17 (.string (strOfNums l)) (fun _ => by kernel_rfl) (fun _ => by kernel_rfl) ?_
        refine rw_p 18 (.int .u8 (l.getD 4 0)) (fun _ => by kernel_rfl) (fun _ => ol_sidx _ _ l 4 rfl Tryd.underlying9 (by kernel_rfl) (by kernel_rfl) hb (by omega)) ?_
        refine rw_p 19 (.bool (decide ((l.getD 4 0 : Int) ≤ (56 : Int)))) (fun _ => by kernel_rfl) (fun _ => by kernel_rfl) ?_
        refine rw_p 20 (.bool (decide ((l.getD 4 0 : Int) ≤ (56 : Int)))) (fun _ => by kernel_rfl) (fun _ => by kernel_rfl) ?_
        refine rw_nil ?_
        refine nw_then ?_
        cases hq5 : (decide ((l.getD 4 0 : Int) ≤ (56 : Int))) with
        | true =>
          have dhq5 := of_decide_eq_true hq5
          refine cw_cond_t (fun _ => by kernel_rfl) ?_
          refine cw_seq ?_
          refine cw_region ?_
          refine rw_p 21 (.string (strOfNums l)) (fun _ => by kernel_rfl) (fun _ => by kernel_rfl) ?_
          refine rw_p 22 (.int .u8 (l.getD 4 0)) (fun _ => by kernel_rfl) (fun _ => ol_sidx _ _ l 4 rfl Tryd.underlying9 (by kernel_rfl) (by kernel_rfl) hb (by omega)) ?_
          refine rw_p 23 (.int .u8 ((l.getD 4 0 : Int) - (48 : Int))) (fun _ => by kernel_rfl) (fun _ => ol_conv (v := .int .u8 (IntKind.u8.wrap ((l.getD 4 0 : Int) - (48 : Int)))) (by kernel_rfl) (congrArg (Value.int .u8) (w8 (by omega) (by omega)))) ?_
          refine rw_p 24 (.int .i64 ((l.getD 4 0 : Int) - (48 : Int))) (fun _ => by kernel_rfl) (fun _ => ol_cv 5 3 .u8 .i64 _ ((l.getD 4 0 : Int) - (48 : Int)) ((l.getD 4 0 : Int) - (48 : Int)) rfl Tryd.underlying5 Tryd.underlying3 (by kernel_rfl) (wrapI (by right; right; exact ⟨rfl, by omega, by omega⟩))) ?_
          refine rw_p 2 (.int .i64 ((l.getD 4 0 : Int) - (48 : Int))) (fun _ => by kernel_rfl) (fun _ => by kernel_rfl) ?_
          refine rw_nil ?_
          refine nw_then ?_
          refine cw_ret ?_
          refine nw_ret_then ?_
          refine nw_ret_body (.int .i64 ((l.getD 4 0 : Int) - (48 : Int))) (fun _ => by kernel_rfl) ?_
          refine ⟨_, rfl, ?_, hB⟩
          unfold wdW; rw [if_pos ⟨by omega, dhq3, by omega, by omega⟩]; congr 1; omega
        | false =>
          have dhq5 := of_decide_eq_false hq5
          refine cw_cond_f (fun _ => by kernel_rfl) ?_
          refine cw_skip ?_
          refine nw_then ?_
          refine cw_seq ?_
          refine cw_region ?_
          refine rw_p 2 (.int .i64 0) (fun _ => by kernel_rfl) (fun _ => by kernel_rfl) ?_
          refine rw_nil ?_
          refine nw_then ?_
          refine cw_ret ?_
          refine nw_ret_body (.int .i64 0) (fun _ => by kernel_rfl) ?_
          refine ⟨_, rfl, ?_, hB⟩
          unfold wdW; rw [if_neg (fun ⟨h1, h2, h3, h4⟩ => by omega)]; rfl
      | false =>
        have dhq4 := of_decide_eq_false hq4
        refine rw_off 17 (fun _ => by kernel_rfl) ?_
        refine rw_off 18 (fun _ => by kernel_rfl) ?_
        refine rw_off 19 (fun _ => by kernel_rfl) ?_
        refine rw_p 20 (.bool false) (fun _ => by kernel_rfl) (fun _ => by kernel_rfl) ?_
        refine rw_nil ?_
        refine nw_then ?_
        refine cw_cond_f (fun _ => by kernel_rfl) ?_
        refine cw_skip ?_
        refine nw_then ?_
        refine cw_seq ?_
        refine cw_region ?_
        refine rw_p 2 (.int .i64 0) (fun _ => by kernel_rfl) (fun _ => by kernel_rfl) ?_
        refine rw_nil ?_
        refine nw_then ?_
        refine cw_ret ?_
        refine nw_ret_body (.int .i64 0) (fun _ => by kernel_rfl) ?_
        refine ⟨_, rfl, ?_, hB⟩
        unfold wdW; rw [if_neg (fun ⟨h1, h2, h3, h4⟩ => by omega)]; rfl
    | false =>
      have dhq3 := of_decide_eq_false hq3
      refine rw_off 12 (fun _ => by kernel_rfl) ?_
      refine rw_off 13 (fun _ => by kernel_rfl) ?_
      refine rw_off 14 (fun _ => by kernel_rfl) ?_
      refine rw_p 15 (.bool false) (fun _ => by kernel_rfl) (fun _ => by kernel_rfl) ?_
      refine rw_p 16 (.bool false) (fun _ => by kernel_rfl) (fun _ => by kernel_rfl) ?_
      refine rw_off 17 (fun _ => by kernel_rfl) ?_
      refine rw_off 18 (fun _ => by kernel_rfl) ?_
      refine rw_off 19 (fun _ => by kernel_rfl) ?_
      refine rw_p 20 (.bool false) (fun _ => by kernel_rfl) (fun _ => by kernel_rfl) ?_
      refine rw_nil ?_
      refine nw_then ?_
      refine cw_cond_f (fun _ => by kernel_rfl) ?_
      refine cw_skip ?_
      refine nw_then ?_
      refine cw_seq ?_
      refine cw_region ?_
      refine rw_p 2 (.int .i64 0) (fun _ => by kernel_rfl) (fun _ => by kernel_rfl) ?_
      refine rw_nil ?_
      refine nw_then ?_
      refine cw_ret ?_
      refine nw_ret_body (.int .i64 0) (fun _ => by kernel_rfl) ?_
      refine ⟨_, rfl, ?_, hB⟩
      unfold wdW; rw [if_neg (fun ⟨h1, h2, h3, h4⟩ => by exact dhq3 h2)]; rfl
  | false =>
    have dhq1 := ne_of_beq_false hq1
    refine rw_off 7 (fun _ => by kernel_rfl) ?_
    refine rw_off 8 (fun _ => by kernel_rfl) ?_
    refine rw_off 9 (fun _ => by kernel_rfl) ?_
    refine rw_p 10 (.bool false) (fun _ => by kernel_rfl) (fun _ => by kernel_rfl) ?_
    refine rw_p 11 (.bool false) (fun _ => by kernel_rfl) (fun _ => by kernel_rfl) ?_
    refine rw_off 12 (fun _ => by kernel_rfl) ?_
    refine rw_off 13 (fun _ => by kernel_rfl) ?_
    refine rw_off 14 (fun _ => by kernel_rfl) ?_
    refine rw_p 15 (.bool false) (fun _ => by kernel_rfl) (fun _ => by kernel_rfl) ?_
    refine rw_p 16 (.bool false) (fun _ => by kernel_rfl) (fun _ => by kernel_rfl) ?_
    refine rw_off 17 (fun _ => by kernel_rfl) ?_
    refine rw_off 18 (fun _ => by kernel_rfl) ?_
    refine rw_off 19 (fun _ => by kernel_rfl) ?_
    refine rw_p 20 (.bool false) (fun _ => by kernel_rfl) (fun _ => by kernel_rfl) ?_
    refine rw_nil ?_
    refine nw_then ?_
    refine cw_cond_f (fun _ => by kernel_rfl) ?_
    refine cw_skip ?_
    refine nw_then ?_
    refine cw_seq ?_
    refine cw_region ?_
    refine rw_p 2 (.int .i64 0) (fun _ => by kernel_rfl) (fun _ => by kernel_rfl) ?_
    refine rw_nil ?_
    refine nw_then ?_
    refine cw_ret ?_
    refine nw_ret_body (.int .i64 0) (fun _ => by kernel_rfl) ?_
    refine ⟨_, rfl, ?_, hB⟩
    unfold wdW; rw [if_neg (fun ⟨h1, h2, h3, h4⟩ => by omega)]; rfl
end Go.Proofs.YtbjjboicfghldaaDoor

/- The statement OpcodePrints, as a call. -/
import Derived.Test.YtbjjboicfghldaaDoorG32
import Derived.Test.YtbjjboicfghldaaDoorG33
namespace Go.Proofs.YtbjjboicfghldaaDoor
open Go.RowKit
open Wo
set_option linter.unusedVariables false
set_option maxRecDepth 100000
set_option maxHeartbeats 2000000 in
theorem prints_any {a : Option Addr} {n c : Nat} {b : List Int} (w : World) (ht : Tb w) (h : Ag w a n c b) (_ : n ≤ 140737488351232) : Calls Tryd.prog 6 #[.slice a n c] w (Law14 w) := by
  have ht0 := ht
  have hB : Bl w w := Bl.refl w
  refine cw_enter Tryd.func6 rfl 28 rfl ?_
  show CW _ _ _ _ _ _ _ [(0, .slice a n c)] _
  obtain ⟨hbT, hlT, -⟩ := pr_byt h.b
  obtain ⟨T, er, hpr⟩ : ∃ T er, prP b = (T, er) := ⟨_, _, rfl⟩
  rw [hpr] at hbT
  refine cw_seq ?_
  refine cw_region ?_
  refine rw_p 2 (.bool false) (fun _ => by kernel_rfl) (fun _ => by kernel_rfl) ?_
  refine rw_nil ?_
  refine nw_then ?_
  refine cw_seq ?_
  refine cw_region ?_
  refine rw_p 8 (.slice a n c) (fun _ => by kernel_rfl) (fun _ => by kernel_rfl) ?_
  refine rw_call 9 18 #[.slice a n c] (fun _ => by kernel_rfl) (fun _ => by kernel_rfl) (R := RVl w (.tuple #[.string (strOfNums T), .int .i64 er])) (by have := wprt w h ht; rw [hpr] at this; exact this) ?_
  rintro _ w1 ⟨rfl, hb2⟩
  replace hB := hB.go hb2
  replace ht := ht.go hb2
  replace h := h.go hb2
  refine rw_p 7 (.tuple #[.string (strOfNums T), .int .i64 er]) (fun _ => by kernel_rfl) (fun _ => by kernel_rfl) ?_
  refine rw_p 10 (.string (strOfNums T)) (fun _ => by kernel_rfl) (fun _ => by kernel_rfl) ?_
  refine rw_p 11 (.int .i64 er) (fun _ => by kernel_rfl) (fun _ => by kernel_rfl) ?_
  refine rw_p 3 (.string (strOfNums T)) (fun _ => by kernel_rfl) (fun _ => by kernel_rfl) ?_
  refine rw_p 4 (.int .i64 er) (fun _ => by kernel_rfl) (fun _ => by kernel_rfl) ?_
  refine rw_nil ?_
  refine nw_then ?_
  refine cw_seq ?_
  refine cw_region ?_
  refine rw_p 13 (.slice a n c) (fun _ => by kernel_rfl) (fun _ => by kernel_rfl) ?_
  refine rw_call 14 19 #[.slice a n c] (fun _ => by kernel_rfl) (fun _ => by kernel_rfl) (R := RVl w1 (.tuple #[.string (strOfNums T), .int .i64 er])) (by have := rprt w1 h; rw [hpr] at this; exact this) ?_
  rintro _ w3 ⟨rfl, hb4⟩
  replace hB := hB.go hb4
  replace ht := ht.go hb4
  replace h := h.go hb4
  refine rw_p 12 (.tuple #[.string (strOfNums T), .int .i64 er]) (fun _ => by kernel_rfl) (fun _ => by kernel_rfl) ?_
  refine rw_p 15 (.string (strOfNums T)) (fun _ => by kernel_rfl) (fun _ => by kernel_rfl) ?_
  refine rw_p 16 (.int .i64 er) (fun _ => by kernel_rfl) (fun _ => by kernel_rfl) ?_
  refine rw_p 5 (.string (strOfNums T)) (fun _ => by kernel_rfl) (fun _ => by kernel_rfl) ?_
  refine rw_p 6 (.int .i64 er) (fun _ => by kernel_rfl) (fun _ => by kernel_rfl) ?_
  refine rw_nil ?_
  refine nw_then ?_
  refine cw_seq ?_
  refine cw_region ?_
  refine rw_call 17 11 #[] (fun _ => by kernel_rfl) (fun _ => by kernel_rfl) (R := RVl w3 (.bool true)) (walive w3 ht) ?_
  rintro _ w5 ⟨rfl, hb6⟩
  replace hB := hB.go hb6
  replace ht := ht.go hb6
  replace h := h.go hb6
  refine rw_p 18 (.bool true) (fun _ => by kernel_rfl) (fun _ => by kernel_rfl) ?_
  refine rw_p 19 (.string (strOfNums T)) (fun _ => by kernel_rfl) (fun _ => by kernel_rfl) ?_
  refine rw_p 20 (.string (strOfNums T)) (fun _ => by kernel_rfl) (fun _ => by kernel_rfl) ?_
  refine rw_p 21 (.bool true) (fun _ => by kernel_rfl) (fun _ => ol_conv (ol_eqS 9 _ _ _ T T rfl (by kernel_rfl) (by kernel_rfl) hbT hbT) (congrArg Value.bool (decide_eq_true rfl))) ?_
  refine rw_p 22 (.bool true) (fun _ => by kernel_rfl) (fun _ => by kernel_rfl) ?_
  refine rw_p 23 (.bool true) (fun _ => by kernel_rfl) (fun _ => by kernel_rfl) ?_
  refine rw_p 24 (.int .i64 er) (fun _ => by kernel_rfl) (fun _ => by kernel_rfl) ?_
  refine rw_p 25 (.int .i64 er) (fun _ => by kernel_rfl) (fun _ => by kernel_rfl) ?_
  refine rw_p 26 (.bool true) (fun _ => by kernel_rfl) (fun _ => ol_conv (v := .bool ((er : Int) == (er : Int))) (by kernel_rfl) (congrArg Value.bool (beq_self_eq_true _))) ?_
  refine rw_p 27 (.bool true) (fun _ => by kernel_rfl) (fun _ => by kernel_rfl) ?_
  refine rw_p 2 (.bool true) (fun _ => by kernel_rfl) (fun _ => by kernel_rfl) ?_
  refine rw_nil ?_
  refine nw_then ?_
  refine cw_ret ?_
  refine nw_ret_body (.bool true) (fun _ => by kernel_rfl) ?_
  exact ⟨rfl, hB⟩
end Go.Proofs.YtbjjboicfghldaaDoor

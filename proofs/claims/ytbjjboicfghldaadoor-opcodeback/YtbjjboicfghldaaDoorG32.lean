/- The statements OpcodeBack and OpcodeAgain, as calls. -/
import Derived.Test.YtbjjboicfghldaaDoorG30
import Derived.Test.YtbjjboicfghldaaDoorG31
namespace Go.Proofs.YtbjjboicfghldaaDoor
open Go.RowKit
open Wo
set_option linter.unusedVariables false
set_option maxRecDepth 100000
set_option maxHeartbeats 2000000 in
theorem back_long {a : Option Addr} {n c : Nat} {b : List Int} (w : World) (ht : Tb w) (h : Ag w a n c b) (hn : 256 < n) : Calls Tryd.prog 7 #[.slice a n c] w (Law14 w) := by
  have ht0 := ht
  have hB : Bl w w := Bl.refl w
  refine cw_enter Tryd.func7 rfl 45 rfl ?_
  show CW _ _ _ _ _ _ _ [(0, .slice a n c)] _
  have hlb := h.l
  refine cw_seq ?_
  refine cw_region ?_
  refine rw_p 2 (.bool false) (fun _ => by kernel_rfl) (fun _ => by kernel_rfl) ?_
  refine rw_nil ?_
  refine nw_then ?_
  refine cw_seq ?_
  refine cw_region ?_
  refine rw_p 9 (.slice a n c) (fun _ => by kernel_rfl) (fun _ => by kernel_rfl) ?_
  refine rw_call 10 18 #[.slice a n c] (fun _ => by kernel_rfl) (fun _ => by kernel_rfl) (R := RVl w (.tuple #[.string (strOfNums ([])), .int .i64 142])) (by have := wprt w h ht; rw [pr_long (by omega)] at this; exact this) ?_
  rintro _ w1 ⟨rfl, hb2⟩
  replace hB := hB.go hb2
  replace ht := ht.go hb2
  replace h := h.go hb2
  refine rw_p 8 (.tuple #[.string (strOfNums ([])), .int .i64 142]) (fun _ => by kernel_rfl) (fun _ => by kernel_rfl) ?_
  refine rw_p 11 (.string (strOfNums ([]))) (fun _ => by kernel_rfl) (fun _ => by kernel_rfl) ?_
  refine rw_p 12 (.int .i64 142) (fun _ => by kernel_rfl) (fun _ => by kernel_rfl) ?_
  refine rw_p 3 (.string (strOfNums ([]))) (fun _ => by kernel_rfl) (fun _ => by kernel_rfl) ?_
  refine rw_p 4 (.int .i64 142) (fun _ => by kernel_rfl) (fun _ => by kernel_rfl) ?_
  refine rw_nil ?_
  refine nw_then ?_
  refine cw_seq ?_
  refine cw_seq ?_
  refine cw_region ?_
  refine rw_p 13 (.int .i64 142) (fun _ => by kernel_rfl) (fun _ => by kernel_rfl) ?_
  refine rw_p 14 (.bool true) (fun _ => by kernel_rfl) (fun _ => by kernel_rfl) ?_
  refine rw_nil ?_
  refine nw_then ?_
  refine cw_cond_t (fun _ => by kernel_rfl) ?_
  refine cw_seq ?_
  refine cw_region ?_
  refine rw_call 15 11 #[] (fun _ => by kernel_rfl) (fun _ => by kernel_rfl) (R := RVl w1 (.bool true)) (walive w1 ht) ?_
  rintro _ w3 ⟨rfl, hb4⟩
  replace hB := hB.go hb4
  replace ht := ht.go hb4
  replace h := h.go hb4
  refine rw_p 16 (.bool true) (fun _ => by kernel_rfl) (fun _ => by kernel_rfl) ?_
  refine rw_p 17 (.string (strOfNums ([]))) (fun _ => by kernel_rfl) (fun _ => by kernel_rfl) ?_
  refine rw_p 18 (.bool true) (fun _ => by kernel_rfl) (fun _ => ol_conv (ol_eqS 9 _ _ _ ([]) ([]) rfl (by kernel_rfl) (by kernel_rfl) (byt_lit (by decide)) (byt_lit (by decide))) (congrArg Value.bool (decide_eq_true rfl))) ?_
  refine rw_p 19 (.bool true) (fun _ => by kernel_rfl) (fun _ => by kernel_rfl) ?_
  refine rw_p 20 (.bool true) (fun _ => by kernel_rfl) (fun _ => by kernel_rfl) ?_
  refine rw_p 21 (.slice a n c) (fun _ => by kernel_rfl) (fun _ => by kernel_rfl) ?_
  refine rw_p 22 (.int .i64 ((n : Nat) : Int)) (fun _ => by kernel_rfl) (fun _ => by kernel_rfl) ?_
  refine rw_p 23 (.bool true) (fun _ => by kernel_rfl) (fun _ => ol_conv (v := .bool (decide (((n : Nat) : Int) > (256 : Int)))) (by kernel_rfl) (congrArg Value.bool (decide_eq_true (by omega)))) ?_
  refine rw_p 24 (.bool true) (fun _ => by kernel_rfl) (fun _ => by kernel_rfl) ?_
  refine rw_p 2 (.bool true) (fun _ => by kernel_rfl) (fun _ => by kernel_rfl) ?_
  refine rw_nil ?_
  refine nw_then ?_
  refine cw_ret ?_
  refine nw_ret_then ?_
  refine nw_ret_body (.bool true) (fun _ => by kernel_rfl) ?_
  exact ⟨rfl, hB⟩
set_option maxHeartbeats 2000000 in
theorem back_ok {a : Option Addr} {n c : Nat} {b : List Int} (w : World) (ht : Tb w) (h : Ag w a n c b) (hn : n ≤ 256) {T : List Int} (hbT : Byt T) (hlT : T.length ≤ 20000) (hpr : prP b = (T, 0)) (has : asF [] T 0 = (b, 0, 0)) : Calls Tryd.prog 7 #[.slice a n c] w (Law14 w) := by
  have ht0 := ht
  have hB : Bl w w := Bl.refl w
  refine cw_enter Tryd.func7 rfl 45 rfl ?_
  show CW _ _ _ _ _ _ _ [(0, .slice a n c)] _
  have hlb := h.l
  refine cw_seq ?_
  refine cw_region ?_
  refine rw_p 2 (.bool false) (fun _ => by kernel_rfl) (fun _ => by kernel_rfl) ?_
  refine rw_nil ?_
  refine nw_then ?_
  refine cw_seq ?_
  refine cw_region ?_
  refine rw_p 9 (.slice a n c) (fun _ => by kernel_rfl) (fun _ => by kernel_rfl) ?_
  refine rw_call 10 18 #[.slice a n c] (fun _ => by kernel_rfl) (fun _ => by kernel_rfl) (R := RVl w (.tuple #[.string (strOfNums T), .int .i64 0])) (by have := wprt w h ht; rw [hpr] at this; exact this) ?_
  rintro _ w1 ⟨rfl, hb2⟩
  replace hB := hB.go hb2
  replace ht := ht.go hb2
  replace h := h.go hb2
  refine rw_p 8 (.tuple #[.string (strOfNums T), .int .i64 0]) (fun _ => by kernel_rfl) (fun _ => by kernel_rfl) ?_
  refine rw_p 11 (.string (strOfNums T)) (fun _ => by kernel_rfl) (fun _ => by kernel_rfl) ?_
  refine rw_p 12 (.int .i64 0) (fun _ => by kernel_rfl) (fun _ => by kernel_rfl) ?_
  refine rw_p 3 (.string (strOfNums T)) (fun _ => by kernel_rfl) (fun _ => by kernel_rfl) ?_
  refine rw_p 4 (.int .i64 0) (fun _ => by kernel_rfl) (fun _ => by kernel_rfl) ?_
  refine rw_nil ?_
  refine nw_then ?_
  refine cw_seq ?_
  refine cw_seq ?_
  refine cw_region ?_
  refine rw_p 13 (.int .i64 0) (fun _ => by kernel_rfl) (fun _ => by kernel_rfl) ?_
  refine rw_p 14 (.bool false) (fun _ => by kernel_rfl) (fun _ => by kernel_rfl) ?_
  refine rw_nil ?_
  refine nw_then ?_
  refine cw_cond_f (fun _ => by kernel_rfl) ?_
  refine cw_skip ?_
  refine nw_then ?_
  refine cw_seq ?_
  refine cw_region ?_
  refine rw_p 26 (.string (strOfNums T)) (fun _ => by kernel_rfl) (fun _ => by kernel_rfl) ?_
  refine rw_call 27 15 #[.string (strOfNums T)] (fun _ => by kernel_rfl) (fun _ => by kernel_rfl) (R := RAs w1 (b, 0, 0)) (by have := wasm (l := T) hbT (by omega) w1 ht; rw [has] at this; exact this) ?_
  rintro _ w6 ⟨x3, n4, c5, rfl, ha7, hb8⟩
  replace ha7 : Ag w6 x3 n4 c5 b := ha7
  replace hB := hB.go hb8
  replace ht := ht.go hb8
  replace h := h.go hb8
  have hlha7 : List.length (b) = n4 := ha7.l
  refine rw_p 25 (.tuple #[.slice x3 n4 c5, .int .i64 ((0 : Nat) : Int), .int .i64 0]) (fun _ => by kernel_rfl) (fun _ => by kernel_rfl) ?_
  refine rw_p 28 (.slice x3 n4 c5) (fun _ => by kernel_rfl) (fun _ => by kernel_rfl) ?_
  refine rw_p 29 (.int .i64 ((0 : Nat) : Int)) (fun _ => by kernel_rfl) (fun _ => by kernel_rfl) ?_
  refine rw_p 30 (.int .i64 0) (fun _ => by kernel_rfl) (fun _ => by kernel_rfl) ?_
  refine rw_p 5 (.slice x3 n4 c5) (fun _ => by kernel_rfl) (fun _ => by kernel_rfl) ?_
  refine rw_p 6 (.int .i64 ((0 : Nat) : Int)) (fun _ => by kernel_rfl) (fun _ => by kernel_rfl) ?_
  refine rw_p 7 (.int .i64 0) (fun _ => by kernel_rfl) (fun _ => by kernel_rfl) ?_
  refine rw_nil ?_
  refine nw_then ?_
  refine cw_seq ?_
  refine cw_region ?_
  refine rw_call 31 11 #[] (fun _ => by kernel_rfl) (fun _ => by kernel_rfl) (R := RVl w6 (.bool true)) (walive w6 ht) ?_
  rintro _ w9 ⟨rfl, hb10⟩
  replace hB := hB.go hb10
  replace ht := ht.go hb10
  replace h := h.go hb10
  replace ha7 := ha7.go hb10
  refine rw_p 32 (.bool true) (fun _ => by kernel_rfl) (fun _ => by kernel_rfl) ?_
  refine rw_p 33 (.int .i64 0) (fun _ => by kernel_rfl) (fun _ => by kernel_rfl) ?_
  refine rw_p 34 (.bool true) (fun _ => by kernel_rfl) (fun _ => by kernel_rfl) ?_
  refine rw_p 35 (.bool true) (fun _ => by kernel_rfl) (fun _ => by kernel_rfl) ?_
  refine rw_p 36 (.bool true) (fun _ => by kernel_rfl) (fun _ => by kernel_rfl) ?_
  refine rw_p 37 (.int .i64 ((0 : Nat) : Int)) (fun _ => by kernel_rfl) (fun _ => by kernel_rfl) ?_
  refine rw_p 38 (.bool true) (fun _ => by kernel_rfl) (fun _ => ol_conv (v := .bool (((0 : Nat) : Int) == (0 : Int))) (by kernel_rfl) (congrArg Value.bool (rfl))) ?_
  refine rw_p 39 (.bool true) (fun _ => by kernel_rfl) (fun _ => by kernel_rfl) ?_
  refine rw_p 40 (.bool true) (fun _ => by kernel_rfl) (fun _ => by kernel_rfl) ?_
  refine rw_p 41 (.slice x3 n4 c5) (fun _ => by kernel_rfl) (fun _ => by kernel_rfl) ?_
  refine rw_p 42 (.slice a n c) (fun _ => by kernel_rfl) (fun _ => by kernel_rfl) ?_
  refine rw_call 43 17 #[.slice x3 n4 c5, .slice a n c] (fun _ => by kernel_rfl) (fun _ => by kernel_rfl) (R := RVl w9 (.bool true)) (wsame w9 ha7 h) ?_
  rintro _ w11 ⟨rfl, hb12⟩
  replace hB := hB.go hb12
  replace ht := ht.go hb12
  replace h := h.go hb12
  replace ha7 := ha7.go hb12
  refine rw_p 44 (.bool true) (fun _ => by kernel_rfl) (fun _ => by kernel_rfl) ?_
  refine rw_p 2 (.bool true) (fun _ => by kernel_rfl) (fun _ => by kernel_rfl) ?_
  refine rw_nil ?_
  refine nw_then ?_
  refine cw_ret ?_
  refine nw_ret_body (.bool true) (fun _ => by kernel_rfl) ?_
  exact ⟨rfl, hB⟩
theorem back_any {a : Option Addr} {n c : Nat} {b : List Int} (w : World) (ht : Tb w) (h : Ag w a n c b) (_ : n ≤ 140737488351232) : Calls Tryd.prog 7 #[.slice a n c] w (Law14 w) := by
  have hl := h.l
  by_cases hn : 256 < n
  · exact back_long w ht h hn
  · obtain ⟨h1, h2, h3⟩ := pr_byt h.b
    exact back_ok w ht h (by omega) h1 h2 (Prod.ext rfl (h3.2 (by omega))) (as_pr h.b (by omega))
set_option maxHeartbeats 2000000 in
theorem again_err {l : List Int} {pl : Nat} (w : World) (ht : Tb w) (hb : Byt l) (hl : l.length ≤ 9223372036854775000) {er : Int} (her : er ≠ 0) (has : asF [] l 0 = ([], pl, er)) : Calls Tryd.prog 8 #[.string (strOfNums l)] w (Law14 w) := by
  have ht0 := ht
  have hB : Bl w w := Bl.refl w
  refine cw_enter Tryd.func8 rfl 66 rfl ?_
  show CW _ _ _ _ _ _ _ [(0, .string (strOfNums l))] _
  refine cw_seq ?_
  refine cw_region ?_
  refine rw_p 2 (.bool false) (fun _ => by kernel_rfl) (fun _ => by kernel_rfl) ?_
  refine rw_nil ?_
  refine nw_then ?_
  refine cw_seq ?_
  refine cw_region ?_
  refine rw_p 14 (.string (strOfNums l)) (fun _ => by kernel_rfl) (fun _ => by kernel_rfl) ?_
  refine rw_call 15 15 #[.string (strOfNums l)] (fun _ => by kernel_rfl) (fun _ => by kernel_rfl) (R := RAs w ([], pl, er)) (by have := wasm (l := l) hb hl w ht; rw [has] at this; exact this) ?_
  rintro _ w4 ⟨x1, n2, c3, rfl, ha5, hb6⟩
  replace ha5 : Ag w4 x1 n2 c3 ([]) := ha5
  replace hB := hB.go hb6
  replace ht := ht.go hb6
  have hlha5 : List.length ([]) = n2 := ha5.l
  refine rw_p 13 (.tuple #[.slice x1 n2 c3, .int .i64 ((pl : Nat) : Int), .int .i64 er]) (fun _ => by kernel_rfl) (fun _ => by kernel_rfl) ?_
  refine rw_p 16 (.slice x1 n2 c3) (fun _ => by kernel_rfl) (fun _ => by kernel_rfl) ?_
  refine rw_p 17 (.int .i64 ((pl : Nat) : Int)) (fun _ => by kernel_rfl) (fun _ => by kernel_rfl) ?_
  refine rw_p 18 (.int .i64 er) (fun _ => by kernel_rfl) (fun _ => by kernel_rfl) ?_
  refine rw_p 3 (.slice x1 n2 c3) (fun _ => by kernel_rfl) (fun _ => by kernel_rfl) ?_
  refine rw_p 4 (.int .i64 ((pl : Nat) : Int)) (fun _ => by kernel_rfl) (fun _ => by kernel_rfl) ?_
  refine rw_p 5 (.int .i64 er) (fun _ => by kernel_rfl) (fun _ => by kernel_rfl) ?_
  refine rw_nil ?_
  refine nw_then ?_
  refine cw_seq ?_
  refine cw_seq ?_
  refine cw_region ?_
  refine rw_p 19 (.int .i64 er) (fun _ => by kernel_rfl) (fun _ => by kernel_rfl) ?_
  refine rw_p 20 (.bool true) (fun _ => by kernel_rfl) (fun _ => ol_conv (v := .bool (!((er : Int) == (0 : Int)))) (by kernel_rfl) (congrArg Value.bool (by simpa using her))) ?_
  refine rw_nil ?_
  refine nw_then ?_
  refine cw_cond_t (fun _ => by kernel_rfl) ?_
  refine cw_seq ?_
  refine cw_region ?_
  refine rw_call 21 11 #[] (fun _ => by kernel_rfl) (fun _ => by kernel_rfl) (R := RVl w4 (.bool true)) (walive w4 ht) ?_
  rintro _ w7 ⟨rfl, hb8⟩
  replace hB := hB.go hb8
  replace ht := ht.go hb8
  replace ha5 := ha5.go hb8
  refine rw_p 22 (.bool true) (fun _ => by kernel_rfl) (fun _ => by kernel_rfl) ?_
  refine rw_p 23 (.slice x1 n2 c3) (fun _ => by kernel_rfl) (fun _ => by kernel_rfl) ?_
  refine rw_p 24 (.int .i64 ((n2 : Nat) : Int)) (fun _ => by kernel_rfl) (fun _ => by kernel_rfl) ?_
  refine rw_p 25 (.bool true) (fun _ => by kernel_rfl) (fun _ => ol_conv (v := .bool (((n2 : Nat) : Int) == (0 : Int))) (by kernel_rfl) (congrArg Value.bool (by rw [← hlha5]; rfl))) ?_
  refine rw_p 26 (.bool true) (fun _ => by kernel_rfl) (fun _ => by kernel_rfl) ?_
  refine rw_p 2 (.bool true) (fun _ => by kernel_rfl) (fun _ => by kernel_rfl) ?_
  refine rw_nil ?_
  refine nw_then ?_
  refine cw_ret ?_
  refine nw_ret_then ?_
  refine nw_ret_body (.bool true) (fun _ => by kernel_rfl) ?_
  exact ⟨rfl, hB⟩
set_option maxHeartbeats 2000000 in
theorem again_ok {l : List Int} {pl : Nat} (w : World) (ht : Tb w) (hb : Byt l) (hl : l.length ≤ 9223372036854775000) {C T : List Int} (has : asF [] l 0 = (C, pl, 0)) (hbT : Byt T) (hlT : T.length ≤ 20000) (hpr : prP C = (T, 0)) (has2 : asF [] T 0 = (C, 0, 0)) : Calls Tryd.prog 8 #[.string (strOfNums l)] w (Law14 w) := by
  have ht0 := ht
  have hB : Bl w w := Bl.refl w
  refine cw_enter Tryd.func8 rfl 66 rfl ?_
  show CW _ _ _ _ _ _ _ [(0, .string (strOfNums l))] _
  refine cw_seq ?_
  refine cw_region ?_
  refine rw_p 2 (.bool false) (fun _ => by kernel_rfl) (fun _ => by kernel_rfl) ?_
  refine rw_nil ?_
  refine nw_then ?_
  refine cw_seq ?_
  refine cw_region ?_
  refine rw_p 14 (.string (strOfNums l)) (fun _ => by kernel_rfl) (fun _ => by kernel_rfl) ?_
  refine rw_call 15 15 #[.string (strOfNums l)] (fun _ => by kernel_rfl) (fun _ => by kernel_rfl) (R := RAs w (C, pl, 0)) (by have := wasm (l := l) hb hl w ht; rw [has] at this; exact this) ?_
  rintro _ w4 ⟨x1, n2, c3, rfl, ha5, hb6⟩
  replace ha5 : Ag w4 x1 n2 c3 C := ha5
  replace hB := hB.go hb6
  replace ht := ht.go hb6
  have hlha5 : List.length (C) = n2 := ha5.l
  refine rw_p 13 (.tuple #[.slice x1 n2 c3, .int .i64 ((pl : Nat) : Int), .int .i64 0]) (fun _ => by kernel_rfl) (fun _ => by kernel_rfl) ?_
  refine rw_p 16 (.slice x1 n2 c3) (fun _ => by kernel_rfl) (fun _ => by kernel_rfl) ?_
  refine rw_p 17 (.int .i64 ((pl : Nat) : Int)) (fun _ => by kernel_rfl) (fun _ => by kernel_rfl) ?_
  refine rw_p 18 (.int .i64 0) (fun _ => by kernel_rfl) (fun _ => by kernel_rfl) ?_
  refine rw_p 3 (.slice x1 n2 c3) (fun _ => by kernel_rfl) (fun _ => by kernel_rfl) ?_
  refine rw_p 4 (.int .i64 ((pl : Nat) : Int)) (fun _ => by kernel_rfl) (fun _ => by kernel_rfl) ?_
  refine rw_p 5 (.int .i64 0) (fun _ => by kernel_rfl) (fun _ => by kernel_rfl) ?_
  refine rw_nil ?_
  refine nw_then ?_
  refine cw_seq ?_
  refine cw_seq ?_
  refine cw_region ?_
  refine rw_p 19 (.int .i64 0) (fun _ => by kernel_rfl) (fun _ => by kernel_rfl) ?_
  refine rw_p 20 (.bool false) (fun _ => by kernel_rfl) (fun _ => by kernel_rfl) ?_
  refine rw_nil ?_
  refine nw_then ?_
  refine cw_cond_f (fun _ => by kernel_rfl) ?_
  refine cw_skip ?_
  refine nw_then ?_
  refine cw_seq ?_
  refine cw_region ?_
  refine rw_p 28 (.slice x1 n2 c3) (fun _ => by kernel_rfl) (fun _ => by kernel_rfl) ?_
  refine rw_call 29 18 #[.slice x1 n2 c3] (fun _ => by kernel_rfl) (fun _ => by kernel_rfl) (R := RVl w4 (.tuple #[.string (strOfNums T), .int .i64 0])) (by have := wprt w4 ha5 ht; rw [hpr] at this; exact this) ?_
  rintro _ w7 ⟨rfl, hb8⟩
  replace hB := hB.go hb8
  replace ht := ht.go hb8
  replace ha5 := ha5.go hb8
  refine rw_p 27 (.tuple #[.string (strOfNums T), .int .i64 0]) (fun _ => by kernel_rfl) (fun _ => by kernel_rfl) ?_
  refine rw_p 30 (.string (strOfNums T)) (fun _ => by kernel_rfl) (fun _ => by kernel_rfl) ?_
  refine rw_p 31 (.int .i64 0) (fun _ => by kernel_rfl) (fun _ => by kernel_rfl) ?_
  refine rw_p 6 (.string (strOfNums T)) (fun _ => by kernel_rfl) (fun _ => by kernel_rfl) ?_
  refine rw_p 7 (.int .i64 0) (fun _ => by kernel_rfl) (fun _ => by kernel_rfl) ?_
  refine rw_nil ?_
  refine nw_then ?_
  refine cw_seq ?_
  refine cw_region ?_
  refine rw_p 33 (.string (strOfNums T)) (fun _ => by kernel_rfl) (fun _ => by kernel_rfl) ?_
  refine rw_call 34 15 #[.string (strOfNums T)] (fun _ => by kernel_rfl) (fun _ => by kernel_rfl) (R := RAs w7 (C, 0, 0)) (by have := wasm (l := T) hbT (by omega) w7 ht; rw [has2] at this; exact this) ?_
  rintro _ w12 ⟨x9, n10, c11, rfl, ha13, hb14⟩
  replace ha13 : Ag w12 x9 n10 c11 C := ha13
  replace hB := hB.go hb14
  replace ht := ht.go hb14
  replace ha5 := ha5.go hb14
  have hlha13 : List.length (C) = n10 := ha13.l
  refine rw_p 32 (.tuple #[.slice x9 n10 c11, .int .i64 ((0 : Nat) : Int), .int .i64 0]) (fun _ => by kernel_rfl) (fun _ => by kernel_rfl) ?_
  refine rw_p 35 (.slice x9 n10 c11) (fun _ => by kernel_rfl) (fun _ => by kernel_rfl) ?_
  refine rw_p 36 (.int .i64 ((0 : Nat) : Int)) (fun _ => by kernel_rfl) (fun _ => by kernel_rfl) ?_
  refine rw_p 37 (.int .i64 0) (fun _ => by kernel_rfl) (fun _ => by kernel_rfl) ?_
  refine rw_p 8 (.slice x9 n10 c11) (fun _ => by kernel_rfl) (fun _ => by kernel_rfl) ?_
  refine rw_p 9 (.int .i64 ((0 : Nat) : Int)) (fun _ => by kernel_rfl) (fun _ => by kernel_rfl) ?_
  refine rw_p 10 (.int .i64 0) (fun _ => by kernel_rfl) (fun _ => by kernel_rfl) ?_
  refine rw_nil ?_
  refine nw_then ?_
  refine cw_seq ?_
  refine cw_region ?_
  refine rw_p 39 (.slice x9 n10 c11) (fun _ => by kernel_rfl) (fun _ => by kernel_rfl) ?_
  refine rw_call 40 18 #[.slice x9 n10 c11] (fun _ => by kernel_rfl) (fun _ => by kernel_rfl) (R := RVl w12 (.tuple #[.string (strOfNums T), .int .i64 0])) (by have := wprt w12 ha13 ht; rw [hpr] at this; exact this) ?_
  rintro _ w15 ⟨rfl, hb16⟩
  replace hB := hB.go hb16
  replace ht := ht.go hb16
  replace ha5 := ha5.go hb16
  replace ha13 := ha13.go hb16
  refine rw_p 38 (.tuple #[.string (strOfNums T), .int .i64 0]) (fun _ => by kernel_rfl) (fun _ => by kernel_rfl) ?_
  refine rw_p 41 (.string (strOfNums T)) (fun _ => by kernel_rfl) (fun _ => by kernel_rfl) ?_
  refine rw_p 42 (.int .i64 0) (fun _ => by kernel_rfl) (fun _ => by kernel_rfl) ?_
  refine rw_p 11 (.string (strOfNums T)) (fun _ => by kernel_rfl) (fun _ => by kernel_rfl) ?_
  refine rw_p 12 (.int .i64 0) (fun _ => by kernel_rfl) (fun _ => by kernel_rfl) ?_
  refine rw_nil ?_
  refine nw_then ?_
  refine cw_seq ?_
  refine cw_region ?_
  refine rw_call 43 11 #[] (fun _ => by kernel_rfl) (fun _ => by kernel_rfl) (R := RVl w15 (.bool true)) (walive w15 ht) ?_
  rintro _ w17 ⟨rfl, hb18⟩
  replace hB := hB.go hb18
  replace ht := ht.go hb18
  replace ha5 := ha5.go hb18
  replace ha13 := ha13.go hb18
  refine rw_p 44 (.bool true) (fun _ => by kernel_rfl) (fun _ => by kernel_rfl) ?_
  refine rw_p 45 (.int .i64 0) (fun _ => by kernel_rfl) (fun _ => by kernel_rfl) ?_
  refine rw_p 46 (.bool true) (fun _ => by kernel_rfl) (fun _ => by kernel_rfl) ?_
  refine rw_p 47 (.bool true) (fun _ => by kernel_rfl) (fun _ => by kernel_rfl) ?_
  refine rw_p 48 (.bool true) (fun _ => by kernel_rfl) (fun _ => by kernel_rfl) ?_
  refine rw_p 49 (.int .i64 0) (fun _ => by kernel_rfl) (fun _ => by kernel_rfl) ?_
  refine rw_p 50 (.bool true) (fun _ => by kernel_rfl) (fun _ => by kernel_rfl) ?_
  refine rw_p 51 (.bool true) (fun _ => by kernel_rfl) (fun _ => by kernel_rfl) ?_
  refine rw_p 52 (.bool true) (fun _ => by kernel_rfl) (fun _ => by kernel_rfl) ?_
  refine rw_p 53 (.int .i64 0) (fun _ => by kernel_rfl) (fun _ => by kernel_rfl) ?_
  refine rw_p 54 (.bool true) (fun _ => by kernel_rfl) (fun _ => by kernel_rfl) ?_
  refine rw_p 55 (.bool true) (fun _ => by kernel_rfl) (fun _ => by kernel_rfl) ?_
  refine rw_p 56 (.bool true) (fun _ => by kernel_rfl) (fun _ => by kernel_rfl) ?_
  refine rw_p 57 (.slice x1 n2 c3) (fun _ => by kernel_rfl) (fun _ => by kernel_rfl) ?_
  refine rw_p 58 (.slice x9 n10 c11) (fun _ => by kernel_rfl) (fun _ => by kernel_rfl) ?_
  refine rw_call 59 17 #[.slice x1 n2 c3, .slice x9 n10 c11] (fun _ => by kernel_rfl) (fun _ => by kernel_rfl) (R := RVl w17 (.bool true)) (wsame w17 ha5 ha13) ?_
  rintro _ w19 ⟨rfl, hb20⟩
  replace hB := hB.go hb20
  replace ht := ht.go hb20
  replace ha5 := ha5.go hb20
  replace ha13 := ha13.go hb20
  refine rw_p 60 (.bool true) (fun _ => by kernel_rfl) (fun _ => by kernel_rfl) ?_
  refine rw_p 61 (.bool true) (fun _ => by kernel_rfl) (fun _ => by kernel_rfl) ?_
  refine rw_p 62 (.string (strOfNums T)) (fun _ => by kernel_rfl) (fun _ => by kernel_rfl) ?_
  refine rw_p 63 (.string (strOfNums T)) (fun _ => by kernel_rfl) (fun _ => by kernel_rfl) ?_
  refine rw_p 64 (.bool true) (fun _ => by kernel_rfl) (fun _ => ol_conv (ol_eqS 9 _ _ _ T T rfl (by kernel_rfl) (by kernel_rfl) hbT hbT) (congrArg Value.bool (decide_eq_true rfl))) ?_
  refine rw_p 65 (.bool true) (fun _ => by kernel_rfl) (fun _ => by kernel_rfl) ?_
  refine rw_p 2 (.bool true) (fun _ => by kernel_rfl) (fun _ => by kernel_rfl) ?_
  refine rw_nil ?_
  refine nw_then ?_
  refine cw_ret ?_
  refine nw_ret_body (.bool true) (fun _ => by kernel_rfl) ?_
  exact ⟨rfl, hB⟩
theorem again_any {l : List Int} (w : World) (ht : Tb w) (hb : Byt l) (hl : l.length ≤ 9223372036854775000) : Calls Tryd.prog 8 #[.string (strOfNums l)] w (Law14 w) := by
  obtain ⟨h1, h2, h3⟩ := as_ok l.length [] l 0 (Nat.le_refl _) (fun x hx => absurd hx List.not_mem_nil) (by simp)
  obtain ⟨C, pl, er, has⟩ : ∃ C pl er, asF [] l 0 = (C, pl, er) := ⟨_, _, _, rfl⟩
  rw [has] at h1 h2 h3
  by_cases her : er = 0
  · subst her
    obtain ⟨k1, k2, k3⟩ := pr_byt h1
    exact again_ok w ht hb hl has k1 k2 (Prod.ext rfl (k3.2 h2)) (as_pr h1 h2)
  · obtain rfl : C = [] := h3 her
    exact again_err w ht hb hl her has
end Go.Proofs.YtbjjboicfghldaaDoor

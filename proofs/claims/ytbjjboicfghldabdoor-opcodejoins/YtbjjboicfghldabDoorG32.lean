/- The statement OpcodeJoins, as a call. -/
import Derived.Test.YtbjjboicfghldabDoorG29
import Derived.Test.YtbjjboicfghldabDoorG31
namespace Go.Proofs.YtbjjboicfghldabDoor
open Go.RowKit
open Wo
set_option linter.unusedVariables false
set_option maxRecDepth 100000
set_option maxHeartbeats 2000000 in
theorem joins_err {s t : List Int} (w : World) (ht : Tb w) (hbs : Byt s) (hls : s.length ≤ 140737488355328) (hbt : Byt t) (hlt : t.length ≤ 140737488355328) {A B C : List Int} {pa pb pc : Nat} {ea eb ec : Int} (hA : asF [] s 0 = (A, pa, ea)) (hBt : asF [] t 0 = (B, pb, eb)) (hC : asF [] (((s ++ [10]) ++ t) ++ [32]) 0 = (C, pc, ec)) (hea : ea ≠ 0) (hAl : A.length ≤ 256) (hBl : B.length ≤ 256) : Calls Tryd.prog 3 #[.string (strOfNums s), .string (strOfNums t)] w (Law14 w) := by
  have ht0 := ht
  have hB : Bl w w := Bl.refl w
  refine cw_enter Tryd.func3 rfl 87 rfl ?_
  show CW _ _ _ _ _ _ _ [(0, .string (strOfNums s)), (1, .string (strOfNums t))] _
  refine cw_seq ?_
  refine cw_region ?_
  refine rw_p 4 (.bool false) (fun _ => by kernel_rfl) (fun _ => by kernel_rfl) ?_
  refine rw_nil ?_
  refine nw_then ?_
  refine cw_seq ?_
  refine cw_region ?_
  refine rw_p 15 (.string (strOfNums s)) (fun _ => by kernel_rfl) (fun _ => by kernel_rfl) ?_
  refine rw_call 16 5 #[.string (strOfNums s)] (fun _ => by kernel_rfl) (fun _ => by kernel_rfl) (R := RAs w (A, pa, ea)) (by have := wasm (l := s) hbs (by omega) w ht; rw [hA] at this; exact this) ?_
  rintro _ w4 ⟨x1, n2, c3, rfl, ha5, hb6⟩
  replace ha5 : Ag w4 x1 n2 c3 A := ha5
  replace hB := hB.go hb6
  replace ht := ht.go hb6
  have hlha5 : List.length (A) = n2 := ha5.l
  refine rw_p 14 (.tuple #[.slice x1 n2 c3, .int .i64 ((pa : Nat) : Int), .int .i64 ea]) (fun _ => by kernel_rfl) (fun _ => by kernel_rfl) ?_
  refine rw_p 17 (.slice x1 n2 c3) (fun _ => by kernel_rfl) (fun _ => by kernel_rfl) ?_
  refine rw_p 18 (.int .i64 ((pa : Nat) : Int)) (fun _ => by kernel_rfl) (fun _ => by kernel_rfl) ?_
  refine rw_p 19 (.int .i64 ea) (fun _ => by kernel_rfl) (fun _ => by kernel_rfl) ?_
  refine rw_p 5 (.slice x1 n2 c3) (fun _ => by kernel_rfl) (fun _ => by kernel_rfl) ?_
  refine rw_p 6 (.int .i64 ((pa : Nat) : Int)) (fun _ => by kernel_rfl) (fun _ => by kernel_rfl) ?_
  refine rw_p 7 (.int .i64 ea) (fun _ => by kernel_rfl) (fun _ => by kernel_rfl) ?_
  refine rw_nil ?_
  refine nw_then ?_
  refine cw_seq ?_
  refine cw_region ?_
  refine rw_p 21 (.string (strOfNums t)) (fun _ => by kernel_rfl) (fun _ => by kernel_rfl) ?_
  refine rw_call 22 5 #[.string (strOfNums t)] (fun _ => by kernel_rfl) (fun _ => by kernel_rfl) (R := RAs w4 (B, pb, eb)) (by have := wasm (l := t) hbt (by omega) w4 ht; rw [hBt] at this; exact this) ?_
  rintro _ w10 ⟨x7, n8, c9, rfl, ha11, hb12⟩
  replace ha11 : Ag w10 x7 n8 c9 B := ha11
  replace hB := hB.go hb12
  replace ht := ht.go hb12
  replace ha5 := ha5.go hb12
  have hlha11 : List.length (B) = n8 := ha11.l
  refine rw_p 20 (.tuple #[.slice x7 n8 c9, .int .i64 ((pb : Nat) : Int), .int .i64 eb]) (fun _ => by kernel_rfl) (fun _ => by kernel_rfl) ?_
  refine rw_p 23 (.slice x7 n8 c9) (fun _ => by kernel_rfl) (fun _ => by kernel_rfl) ?_
  refine rw_p 24 (.int .i64 ((pb : Nat) : Int)) (fun _ => by kernel_rfl) (fun _ => by kernel_rfl) ?_
  refine rw_p 25 (.int .i64 eb) (fun _ => by kernel_rfl) (fun _ => by kernel_rfl) ?_
  refine rw_p 8 (.slice x7 n8 c9) (fun _ => by kernel_rfl) (fun _ => by kernel_rfl) ?_
  refine rw_p 9 (.int .i64 ((pb : Nat) : Int)) (fun _ => by kernel_rfl) (fun _ => by kernel_rfl) ?_
  refine rw_p 10 (.int .i64 eb) (fun _ => by kernel_rfl) (fun _ => by kernel_rfl) ?_
  refine rw_nil ?_
  refine nw_then ?_
  refine cw_seq ?_
  refine cw_region ?_
  refine rw_p 27 (.string (strOfNums s)) (fun _ => by kernel_rfl) (fun _ => by kernel_rfl) ?_
  have by13 : Byt (s ++ ([10])) := (byt_app hbs (byt_lit (by decide)))
  refine rw_p 28 (.string (strOfNums (s ++ ([10])))) (fun _ => by kernel_rfl) (fun _ => ol_addS _ _ _ s ([10]) rfl (by kernel_rfl) (by kernel_rfl) (by simp; omega)) ?_
  refine rw_p 29 (.string (strOfNums t)) (fun _ => by kernel_rfl) (fun _ => by kernel_rfl) ?_
  have by14 : Byt ((s ++ ([10])) ++ t) := (byt_app by13 hbt)
  refine rw_p 30 (.string (strOfNums ((s ++ ([10])) ++ t))) (fun _ => by kernel_rfl) (fun _ => ol_addS _ _ _ (s ++ ([10])) t rfl (by kernel_rfl) (by kernel_rfl) (by simp; omega)) ?_
  have by15 : Byt (((s ++ ([10])) ++ t) ++ ([32])) := (byt_app by14 (byt_lit (by decide)))
  refine rw_p 31 (.string (strOfNums (((s ++ ([10])) ++ t) ++ ([32])))) (fun _ => by kernel_rfl) (fun _ => ol_addS _ _ _ ((s ++ ([10])) ++ t) ([32]) rfl (by kernel_rfl) (by kernel_rfl) (by simp; omega)) ?_
  refine rw_call 32 5 #[.string (strOfNums (((s ++ ([10])) ++ t) ++ ([32])))] (fun _ => by kernel_rfl) (fun _ => by kernel_rfl) (R := RAs w10 (C, pc, ec)) (by have := wasm (l := ((s ++ ([10])) ++ t) ++ ([32])) by15 (by simp; omega) w10 ht; rw [hC] at this; exact this) ?_
  rintro _ w19 ⟨x16, n17, c18, rfl, ha20, hb21⟩
  replace ha20 : Ag w19 x16 n17 c18 C := ha20
  replace hB := hB.go hb21
  replace ht := ht.go hb21
  replace ha5 := ha5.go hb21
  replace ha11 := ha11.go hb21
  have hlha20 : List.length (C) = n17 := ha20.l
  refine rw_p 26 (.tuple #[.slice x16 n17 c18, .int .i64 ((pc : Nat) : Int), .int .i64 ec]) (fun _ => by kernel_rfl) (fun _ => by kernel_rfl) ?_
  refine rw_p 33 (.slice x16 n17 c18) (fun _ => by kernel_rfl) (fun _ => by kernel_rfl) ?_
  refine rw_p 34 (.int .i64 ((pc : Nat) : Int)) (fun _ => by kernel_rfl) (fun _ => by kernel_rfl) ?_
  refine rw_p 35 (.int .i64 ec) (fun _ => by kernel_rfl) (fun _ => by kernel_rfl) ?_
  refine rw_p 11 (.slice x16 n17 c18) (fun _ => by kernel_rfl) (fun _ => by kernel_rfl) ?_
  refine rw_p 12 (.int .i64 ((pc : Nat) : Int)) (fun _ => by kernel_rfl) (fun _ => by kernel_rfl) ?_
  refine rw_p 13 (.int .i64 ec) (fun _ => by kernel_rfl) (fun _ => by kernel_rfl) ?_
  refine rw_nil ?_
  refine nw_then ?_
  refine cw_seq ?_
  refine cw_seq ?_
  refine cw_region ?_
  refine rw_call 36 6 #[] (fun _ => by kernel_rfl) (fun _ => by kernel_rfl) (R := RVl w19 (.bool true)) (walive w19 ht) ?_
  rintro _ w22 ⟨rfl, hb23⟩
  replace hB := hB.go hb23
  replace ht := ht.go hb23
  replace ha5 := ha5.go hb23
  replace ha11 := ha11.go hb23
  replace ha20 := ha20.go hb23
  refine rw_p 37 (.bool false) (fun _ => by kernel_rfl) (fun _ => by kernel_rfl) ?_
  refine rw_p 38 (.bool false) (fun _ => by kernel_rfl) (fun _ => by kernel_rfl) ?_
  refine rw_p 39 (.int .i64 ea) (fun _ => by kernel_rfl) (fun _ => by kernel_rfl) ?_
  refine rw_p 40 (.bool true) (fun _ => by kernel_rfl) (fun _ => ol_conv (v := .bool (!((ea : Int) == (0 : Int)))) (by kernel_rfl) (congrArg Value.bool (by simpa using hea))) ?_
  refine rw_p 41 (.bool true) (fun _ => by kernel_rfl) (fun _ => by kernel_rfl) ?_
  refine rw_nil ?_
  refine nw_then ?_
  refine cw_cond_t (fun _ => by kernel_rfl) ?_
  refine cw_seq ?_
  refine cw_region ?_
  refine rw_call 42 6 #[] (fun _ => by kernel_rfl) (fun _ => by kernel_rfl) (R := RVl w22 (.bool true)) (walive w22 ht) ?_
  rintro _ w24 ⟨rfl, hb25⟩
  replace hB := hB.go hb25
  replace ht := ht.go hb25
  replace ha5 := ha5.go hb25
  replace ha11 := ha11.go hb25
  replace ha20 := ha20.go hb25
  refine rw_p 4 (.bool true) (fun _ => by kernel_rfl) (fun _ => by kernel_rfl) ?_
  refine rw_nil ?_
  refine nw_then ?_
  refine cw_ret ?_
  refine nw_ret_then ?_
  refine nw_ret_body (.bool true) (fun _ => by kernel_rfl) ?_
  exact ⟨rfl, hB⟩
set_option maxHeartbeats 2000000 in
theorem joins_long {s t : List Int} (w : World) (ht : Tb w) (hbs : Byt s) (hls : s.length ≤ 140737488355328) (hbt : Byt t) (hlt : t.length ≤ 140737488355328) {A B C : List Int} {pa pb pc : Nat} {ea eb ec : Int} (hA : asF [] s 0 = (A, pa, ea)) (hBt : asF [] t 0 = (B, pb, eb)) (hC : asF [] (((s ++ [10]) ++ t) ++ [32]) 0 = (C, pc, ec)) (hea : ea = 0) (hlg : 256 < A.length + B.length) (hec : ec = 142) (hAl : A.length ≤ 256) (hBl : B.length ≤ 256) : Calls Tryd.prog 3 #[.string (strOfNums s), .string (strOfNums t)] w (Law14 w) := by
  have ht0 := ht
  have hB : Bl w w := Bl.refl w
  refine cw_enter Tryd.func3 rfl 87 rfl ?_
  show CW _ _ _ _ _ _ _ [(0, .string (strOfNums s)), (1, .string (strOfNums t))] _
  subst hea
  subst hec
  refine cw_seq ?_
  refine cw_region ?_
  refine rw_p 4 (.bool false) (fun _ => by kernel_rfl) (fun _ => by kernel_rfl) ?_
  refine rw_nil ?_
  refine nw_then ?_
  refine cw_seq ?_
  refine cw_region ?_
  refine rw_p 15 (.string (strOfNums s)) (fun _ => by kernel_rfl) (fun _ => by kernel_rfl) ?_
  refine rw_call 16 5 #[.string (strOfNums s)] (fun _ => by kernel_rfl) (fun _ => by kernel_rfl) (R := RAs w (A, pa, 0)) (by have := wasm (l := s) hbs (by omega) w ht; rw [hA] at this; exact this) ?_
  rintro _ w4 ⟨x1, n2, c3, rfl, ha5, hb6⟩
  replace ha5 : Ag w4 x1 n2 c3 A := ha5
  replace hB := hB.go hb6
  replace ht := ht.go hb6
  have hlha5 : List.length (A) = n2 := ha5.l
  refine rw_p 14 (.tuple #[.slice x1 n2 c3, .int .i64 ((pa : Nat) : Int), .int .i64 0]) (fun _ => by kernel_rfl) (fun _ => by kernel_rfl) ?_
  refine rw_p 17 (.slice x1 n2 c3) (fun _ => by kernel_rfl) (fun _ => by kernel_rfl) ?_
  refine rw_p 18 (.int .i64 ((pa : Nat) : Int)) (fun _ => by kernel_rfl) (fun _ => by kernel_rfl) ?_
  refine rw_p 19 (.int .i64 0) (fun _ => by kernel_rfl) (fun _ => by kernel_rfl) ?_
  refine rw_p 5 (.slice x1 n2 c3) (fun _ => by kernel_rfl) (fun _ => by kernel_rfl) ?_
  refine rw_p 6 (.int .i64 ((pa : Nat) : Int)) (fun _ => by kernel_rfl) (fun _ => by kernel_rfl) ?_
  refine rw_p 7 (.int .i64 0) (fun _ => by kernel_rfl) (fun _ => by kernel_rfl) ?_
  refine rw_nil ?_
  refine nw_then ?_
  refine cw_seq ?_
  refine cw_region ?_
  refine rw_p 21 (.string (strOfNums t)) (fun _ => by kernel_rfl) (fun _ => by kernel_rfl) ?_
  refine rw_call 22 5 #[.string (strOfNums t)] (fun _ => by kernel_rfl) (fun _ => by kernel_rfl) (R := RAs w4 (B, pb, eb)) (by have := wasm (l := t) hbt (by omega) w4 ht; rw [hBt] at this; exact this) ?_
  rintro _ w10 ⟨x7, n8, c9, rfl, ha11, hb12⟩
  replace ha11 : Ag w10 x7 n8 c9 B := ha11
  replace hB := hB.go hb12
  replace ht := ht.go hb12
  replace ha5 := ha5.go hb12
  have hlha11 : List.length (B) = n8 := ha11.l
  refine rw_p 20 (.tuple #[.slice x7 n8 c9, .int .i64 ((pb : Nat) : Int), .int .i64 eb]) (fun _ => by kernel_rfl) (fun _ => by kernel_rfl) ?_
  refine rw_p 23 (.slice x7 n8 c9) (fun _ => by kernel_rfl) (fun _ => by kernel_rfl) ?_
  refine rw_p 24 (.int .i64 ((pb : Nat) : Int)) (fun _ => by kernel_rfl) (fun _ => by kernel_rfl) ?_
  refine rw_p 25 (.int .i64 eb) (fun _ => by kernel_rfl) (fun _ => by kernel_rfl) ?_
  refine rw_p 8 (.slice x7 n8 c9) (fun _ => by kernel_rfl) (fun _ => by kernel_rfl) ?_
  refine rw_p 9 (.int .i64 ((pb : Nat) : Int)) (fun _ => by kernel_rfl) (fun _ => by kernel_rfl) ?_
  refine rw_p 10 (.int .i64 eb) (fun _ => by kernel_rfl) (fun _ => by kernel_rfl) ?_
  refine rw_nil ?_
  refine nw_then ?_
  refine cw_seq ?_
  refine cw_region ?_
  refine rw_p 27 (.string (strOfNums s)) (fun _ => by kernel_rfl) (fun _ => by kernel_rfl) ?_
  have by13 : Byt (s ++ ([10])) := (byt_app hbs (byt_lit (by decide)))
  refine rw_p 28 (.string (strOfNums (s ++ ([10])))) (fun _ => by kernel_rfl) (fun _ => ol_addS _ _ _ s ([10]) rfl (by kernel_rfl) (by kernel_rfl) (by simp; omega)) ?_
  refine rw_p 29 (.string (strOfNums t)) (fun _ => by kernel_rfl) (fun _ => by kernel_rfl) ?_
  have by14 : Byt ((s ++ ([10])) ++ t) := (byt_app by13 hbt)
  refine rw_p 30 (.string (strOfNums ((s ++ ([10])) ++ t))) (fun _ => by kernel_rfl) (fun _ => ol_addS _ _ _ (s ++ ([10])) t rfl (by kernel_rfl) (by kernel_rfl) (by simp; omega)) ?_
  have by15 : Byt (((s ++ ([10])) ++ t) ++ ([32])) := (byt_app by14 (byt_lit (by decide)))
  refine rw_p 31 (.string (strOfNums (((s ++ ([10])) ++ t) ++ ([32])))) (fun _ => by kernel_rfl) (fun _ => ol_addS _ _ _ ((s ++ ([10])) ++ t) ([32]) rfl (by kernel_rfl) (by kernel_rfl) (by simp; omega)) ?_
  refine rw_call 32 5 #[.string (strOfNums (((s ++ ([10])) ++ t) ++ ([32])))] (fun _ => by kernel_rfl) (fun _ => by kernel_rfl) (R := RAs w10 (C, pc, 142)) (by have := wasm (l := ((s ++ ([10])) ++ t) ++ ([32])) by15 (by simp; omega) w10 ht; rw [hC] at this; exact this) ?_
  rintro _ w19 ⟨x16, n17, c18, rfl, ha20, hb21⟩
  replace ha20 : Ag w19 x16 n17 c18 C := ha20
  replace hB := hB.go hb21
  replace ht := ht.go hb21
  replace ha5 := ha5.go hb21
  replace ha11 := ha11.go hb21
  have hlha20 : List.length (C) = n17 := ha20.l
  refine rw_p 26 (.tuple #[.slice x16 n17 c18, .int .i64 ((pc : Nat) : Int), .int .i64 142]) (fun _ => by kernel_rfl) (fun _ => by kernel_rfl) ?_
  refine rw_p 33 (.slice x16 n17 c18) (fun _ => by kernel_rfl) (fun _ => by kernel_rfl) ?_
  refine rw_p 34 (.int .i64 ((pc : Nat) : Int)) (fun _ => by kernel_rfl) (fun _ => by kernel_rfl) ?_
  refine rw_p 35 (.int .i64 142) (fun _ => by kernel_rfl) (fun _ => by kernel_rfl) ?_
  refine rw_p 11 (.slice x16 n17 c18) (fun _ => by kernel_rfl) (fun _ => by kernel_rfl) ?_
  refine rw_p 12 (.int .i64 ((pc : Nat) : Int)) (fun _ => by kernel_rfl) (fun _ => by kernel_rfl) ?_
  refine rw_p 13 (.int .i64 142) (fun _ => by kernel_rfl) (fun _ => by kernel_rfl) ?_
  refine rw_nil ?_
  refine nw_then ?_
  refine cw_seq ?_
  refine cw_seq ?_
  refine cw_region ?_
  refine rw_call 36 6 #[] (fun _ => by kernel_rfl) (fun _ => by kernel_rfl) (R := RVl w19 (.bool true)) (walive w19 ht) ?_
  rintro _ w22 ⟨rfl, hb23⟩
  replace hB := hB.go hb23
  replace ht := ht.go hb23
  replace ha5 := ha5.go hb23
  replace ha11 := ha11.go hb23
  replace ha20 := ha20.go hb23
  refine rw_p 37 (.bool false) (fun _ => by kernel_rfl) (fun _ => by kernel_rfl) ?_
  refine rw_p 38 (.bool false) (fun _ => by kernel_rfl) (fun _ => by kernel_rfl) ?_
  refine rw_p 39 (.int .i64 0) (fun _ => by kernel_rfl) (fun _ => by kernel_rfl) ?_
  refine rw_p 40 (.bool false) (fun _ => by kernel_rfl) (fun _ => by kernel_rfl) ?_
  refine rw_p 41 (.bool false) (fun _ => by kernel_rfl) (fun _ => by kernel_rfl) ?_
  refine rw_nil ?_
  refine nw_then ?_
  refine cw_cond_f (fun _ => by kernel_rfl) ?_
  refine cw_skip ?_
  refine nw_then ?_
  refine cw_seq ?_
  refine cw_seq ?_
  refine cw_region ?_
  refine rw_p 43 (.slice x1 n2 c3) (fun _ => by kernel_rfl) (fun _ => by kernel_rfl) ?_
  refine rw_p 44 (.int .i64 ((n2 : Nat) : Int)) (fun _ => by kernel_rfl) (fun _ => by kernel_rfl) ?_
  refine rw_p 45 (.slice x7 n8 c9) (fun _ => by kernel_rfl) (fun _ => by kernel_rfl) ?_
  refine rw_p 46 (.int .i64 ((n8 : Nat) : Int)) (fun _ => by kernel_rfl) (fun _ => by kernel_rfl) ?_
  refine rw_p 47 (.int .i64 ((n2 + n8 : Nat) : Int)) (fun _ => by kernel_rfl) (fun _ => ol_conv (v := .int .i64 (IntKind.i64.wrap (((n2 : Nat) : Int) + ((n8 : Nat) : Int)))) (by kernel_rfl) (congrArg (Value.int .i64) (show IntKind.i64.wrap (((n2 : Nat) : Int) + ((n8 : Nat) : Int)) = ((n2 + n8 : Nat) : Int) from (wrap64 (by omega) (by omega)).trans (by omega)))) ?_
  refine rw_p 48 (.bool true) (fun _ => by kernel_rfl) (fun _ => ol_conv (v := .bool (decide (((n2 + n8 : Nat) : Int) > (256 : Int)))) (by kernel_rfl) (congrArg Value.bool (decide_eq_true (by omega)))) ?_
  refine rw_nil ?_
  refine nw_then ?_
  refine cw_cond_t (fun _ => by kernel_rfl) ?_
  refine cw_seq ?_
  refine cw_region ?_
  refine rw_p 49 (.int .i64 142) (fun _ => by kernel_rfl) (fun _ => by kernel_rfl) ?_
  refine rw_p 50 (.bool true) (fun _ => by kernel_rfl) (fun _ => by kernel_rfl) ?_
  refine rw_p 4 (.bool true) (fun _ => by kernel_rfl) (fun _ => by kernel_rfl) ?_
  refine rw_nil ?_
  refine nw_then ?_
  refine cw_ret ?_
  refine nw_ret_then ?_
  refine nw_ret_body (.bool true) (fun _ => by kernel_rfl) ?_
  exact ⟨rfl, hB⟩
set_option maxHeartbeats 2000000 in
theorem joins_word1 {s t : List Int} (w : World) (ht : Tb w) (hbs : Byt s) (hls : s.length ≤ 140737488355328) (hbt : Byt t) (hlt : t.length ≤ 140737488355328) {A B C : List Int} {pa pb pc : Nat} {ea eb ec : Int} (hA : asF [] s 0 = (A, pa, ea)) (hBt : asF [] t 0 = (B, pb, eb)) (hC : asF [] (((s ++ [10]) ++ t) ++ [32]) 0 = (C, pc, ec)) (hea : ea = 0) (hlg : ¬ 256 < A.length + B.length) (heb : eb = 140) (hec : ec ≠ 0) (he2 : ec ≠ 140) (hAl : A.length ≤ 256) (hBl : B.length ≤ 256) : Calls Tryd.prog 3 #[.string (strOfNums s), .string (strOfNums t)] w (Law14 w) := by
  have ht0 := ht
  have hB : Bl w w := Bl.refl w
  refine cw_enter Tryd.func3 rfl 87 rfl ?_
  show CW _ _ _ _ _ _ _ [(0, .string (strOfNums s)), (1, .string (strOfNums t))] _
  subst hea
  subst heb
  refine cw_seq ?_
  refine cw_region ?_
  refine rw_p 4 (.bool false) (fun _ => by kernel_rfl) (fun _ => by kernel_rfl) ?_
  refine rw_nil ?_
  refine nw_then ?_
  refine cw_seq ?_
  refine cw_region ?_
  refine rw_p 15 (.string (strOfNums s)) (fun _ => by kernel_rfl) (fun _ => by kernel_rfl) ?_
  refine rw_call 16 5 #[.string (strOfNums s)] (fun _ => by kernel_rfl) (fun _ => by kernel_rfl) (R := RAs w (A, pa, 0)) (by have := wasm (l := s) hbs (by omega) w ht; rw [hA] at this; exact this) ?_
  rintro _ w4 ⟨x1, n2, c3, rfl, ha5, hb6⟩
  replace ha5 : Ag w4 x1 n2 c3 A := ha5
  replace hB := hB.go hb6
  replace ht := ht.go hb6
  have hlha5 : List.length (A) = n2 := ha5.l
  refine rw_p 14 (.tuple #[.slice x1 n2 c3, .int .i64 ((pa : Nat) : Int), .int .i64 0]) (fun _ => by kernel_rfl) (fun _ => by kernel_rfl) ?_
  refine rw_p 17 (.slice x1 n2 c3) (fun _ => by kernel_rfl) (fun _ => by kernel_rfl) ?_
  refine rw_p 18 (.int .i64 ((pa : Nat) : Int)) (fun _ => by kernel_rfl) (fun _ => by kernel_rfl) ?_
  refine rw_p 19 (.int .i64 0) (fun _ => by kernel_rfl) (fun _ => by kernel_rfl) ?_
  refine rw_p 5 (.slice x1 n2 c3) (fun _ => by kernel_rfl) (fun _ => by kernel_rfl) ?_
  refine rw_p 6 (.int .i64 ((pa : Nat) : Int)) (fun _ => by kernel_rfl) (fun _ => by kernel_rfl) ?_
  refine rw_p 7 (.int .i64 0) (fun _ => by kernel_rfl) (fun _ => by kernel_rfl) ?_
  refine rw_nil ?_
  refine nw_then ?_
  refine cw_seq ?_
  refine cw_region ?_
  refine rw_p 21 (.string (strOfNums t)) (fun _ => by kernel_rfl) (fun _ => by kernel_rfl) ?_
  refine rw_call 22 5 #[.string (strOfNums t)] (fun _ => by kernel_rfl) (fun _ => by kernel_rfl) (R := RAs w4 (B, pb, 140)) (by have := wasm (l := t) hbt (by omega) w4 ht; rw [hBt] at this; exact this) ?_
  rintro _ w10 ⟨x7, n8, c9, rfl, ha11, hb12⟩
  replace ha11 : Ag w10 x7 n8 c9 B := ha11
  replace hB := hB.go hb12
  replace ht := ht.go hb12
  replace ha5 := ha5.go hb12
  have hlha11 : List.length (B) = n8 := ha11.l
  refine rw_p 20 (.tuple #[.slice x7 n8 c9, .int .i64 ((pb : Nat) : Int), .int .i64 140]) (fun _ => by kernel_rfl) (fun _ => by kernel_rfl) ?_
  refine rw_p 23 (.slice x7 n8 c9) (fun _ => by kernel_rfl) (fun _ => by kernel_rfl) ?_
  refine rw_p 24 (.int .i64 ((pb : Nat) : Int)) (fun _ => by kernel_rfl) (fun _ => by kernel_rfl) ?_
  refine rw_p 25 (.int .i64 140) (fun _ => by kernel_rfl) (fun _ => by kernel_rfl) ?_
  refine rw_p 8 (.slice x7 n8 c9) (fun _ => by kernel_rfl) (fun _ => by kernel_rfl) ?_
  refine rw_p 9 (.int .i64 ((pb : Nat) : Int)) (fun _ => by kernel_rfl) (fun _ => by kernel_rfl) ?_
  refine rw_p 10 (.int .i64 140) (fun _ => by kernel_rfl) (fun _ => by kernel_rfl) ?_
  refine rw_nil ?_
  refine nw_then ?_
  refine cw_seq ?_
  refine cw_region ?_
  refine rw_p 27 (.string (strOfNums s)) (fun _ => by kernel_rfl) (fun _ => by kernel_rfl) ?_
  have by13 : Byt (s ++ ([10])) := (byt_app hbs (byt_lit (by decide)))
  refine rw_p 28 (.string (strOfNums (s ++ ([10])))) (fun _ => by kernel_rfl) (fun _ => ol_addS _ _ _ s ([10]) rfl (by kernel_rfl) (by kernel_rfl) (by simp; omega)) ?_
  refine rw_p 29 (.string (strOfNums t)) (fun _ => by kernel_rfl) (fun _ => by kernel_rfl) ?_
  have by14 : Byt ((s ++ ([10])) ++ t) := (byt_app by13 hbt)
  refine rw_p 30 (.string (strOfNums ((s ++ ([10])) ++ t))) (fun _ => by kernel_rfl) (fun _ => ol_addS _ _ _ (s ++ ([10])) t rfl (by kernel_rfl) (by kernel_rfl) (by simp; omega)) ?_
  have by15 : Byt (((s ++ ([10])) ++ t) ++ ([32])) := (byt_app by14 (byt_lit (by decide)))
  refine rw_p 31 (.string (strOfNums (((s ++ ([10])) ++ t) ++ ([32])))) (fun _ => by kernel_rfl) (fun _ => ol_addS _ _ _ ((s ++ ([10])) ++ t) ([32]) rfl (by kernel_rfl) (by kernel_rfl) (by simp; omega)) ?_
  refine rw_call 32 5 #[.string (strOfNums (((s ++ ([10])) ++ t) ++ ([32])))] (fun _ => by kernel_rfl) (fun _ => by kernel_rfl) (R := RAs w10 (C, pc, ec)) (by have := wasm (l := ((s ++ ([10])) ++ t) ++ ([32])) by15 (by simp; omega) w10 ht; rw [hC] at this; exact this) ?_
  rintro _ w19 ⟨x16, n17, c18, rfl, ha20, hb21⟩
  replace ha20 : Ag w19 x16 n17 c18 C := ha20
  replace hB := hB.go hb21
  replace ht := ht.go hb21
  replace ha5 := ha5.go hb21
  replace ha11 := ha11.go hb21
  have hlha20 : List.length (C) = n17 := ha20.l
  refine rw_p 26 (.tuple #[.slice x16 n17 c18, .int .i64 ((pc : Nat) : Int), .int .i64 ec]) (fun _ => by kernel_rfl) (fun _ => by kernel_rfl) ?_
  refine rw_p 33 (.slice x16 n17 c18) (fun _ => by kernel_rfl) (fun _ => by kernel_rfl) ?_
  refine rw_p 34 (.int .i64 ((pc : Nat) : Int)) (fun _ => by kernel_rfl) (fun _ => by kernel_rfl) ?_
  refine rw_p 35 (.int .i64 ec) (fun _ => by kernel_rfl) (fun _ => by kernel_rfl) ?_
  refine rw_p 11 (.slice x16 n17 c18) (fun _ => by kernel_rfl) (fun _ => by kernel_rfl) ?_
  refine rw_p 12 (.int .i64 ((pc : Nat) : Int)) (fun _ => by kernel_rfl) (fun _ => by kernel_rfl) ?_
  refine rw_p 13 (.int .i64 ec) (fun _ => by kernel_rfl) (fun _ => by kernel_rfl) ?_
  refine rw_nil ?_
  refine nw_then ?_
  refine cw_seq ?_
  refine cw_seq ?_
  refine cw_region ?_
  refine rw_call 36 6 #[] (fun _ => by kernel_rfl) (fun _ => by kernel_rfl) (R := RVl w19 (.bool true)) (walive w19 ht) ?_
  rintro _ w22 ⟨rfl, hb23⟩
  replace hB := hB.go hb23
  replace ht := ht.go hb23
  replace ha5 := ha5.go hb23
  replace ha11 := ha11.go hb23
  replace ha20 := ha20.go hb23
  refine rw_p 37 (.bool false) (fun _ => by kernel_rfl) (fun _ => by kernel_rfl) ?_
  refine rw_p 38 (.bool false) (fun _ => by kernel_rfl) (fun _ => by kernel_rfl) ?_
  refine rw_p 39 (.int .i64 0) (fun _ => by kernel_rfl) (fun _ => by kernel_rfl) ?_
  refine rw_p 40 (.bool false) (fun _ => by kernel_rfl) (fun _ => by kernel_rfl) ?_
  refine rw_p 41 (.bool false) (fun _ => by kernel_rfl) (fun _ => by kernel_rfl) ?_
  refine rw_nil ?_
  refine nw_then ?_
  refine cw_cond_f (fun _ => by kernel_rfl) ?_
  refine cw_skip ?_
  refine nw_then ?_
  refine cw_seq ?_
  refine cw_seq ?_
  refine cw_region ?_
  refine rw_p 43 (.slice x1 n2 c3) (fun _ => by kernel_rfl) (fun _ => by kernel_rfl) ?_
  refine rw_p 44 (.int .i64 ((n2 : Nat) : Int)) (fun _ => by kernel_rfl) (fun _ => by kernel_rfl) ?_
  refine rw_p 45 (.slice x7 n8 c9) (fun _ => by kernel_rfl) (fun _ => by kernel_rfl) ?_
  refine rw_p 46 (.int .i64 ((n8 : Nat) : Int)) (fun _ => by kernel_rfl) (fun _ => by kernel_rfl) ?_
  refine rw_p 47 (.int .i64 ((n2 + n8 : Nat) : Int)) (fun _ => by kernel_rfl) (fun _ => ol_conv (v := .int .i64 (IntKind.i64.wrap (((n2 : Nat) : Int) + ((n8 : Nat) : Int)))) (by kernel_rfl) (congrArg (Value.int .i64) (show IntKind.i64.wrap (((n2 : Nat) : Int) + ((n8 : Nat) : Int)) = ((n2 + n8 : Nat) : Int) from (wrap64 (by omega) (by omega)).trans (by omega)))) ?_
  refine rw_p 48 (.bool false) (fun _ => by kernel_rfl) (fun _ => ol_conv (v := .bool (decide (((n2 + n8 : Nat) : Int) > (256 : Int)))) (by kernel_rfl) (congrArg Value.bool (decide_eq_false (by omega)))) ?_
  refine rw_nil ?_
  refine nw_then ?_
  refine cw_cond_f (fun _ => by kernel_rfl) ?_
  refine cw_skip ?_
  refine nw_then ?_
  refine cw_seq ?_
  refine cw_seq ?_
  refine cw_region ?_
  refine rw_p 51 (.int .i64 140) (fun _ => by kernel_rfl) (fun _ => by kernel_rfl) ?_
  refine rw_p 52 (.bool true) (fun _ => by kernel_rfl) (fun _ => by kernel_rfl) ?_
  refine rw_nil ?_
  refine nw_then ?_
  refine cw_cond_t (fun _ => by kernel_rfl) ?_
  refine cw_seq ?_
  refine cw_region ?_
  refine rw_p 53 (.int .i64 ec) (fun _ => by kernel_rfl) (fun _ => by kernel_rfl) ?_
  refine rw_p 54 (.bool true) (fun _ => by kernel_rfl) (fun _ => ol_conv (v := .bool (!((ec : Int) == (0 : Int)))) (by kernel_rfl) (congrArg Value.bool (by simpa using hec))) ?_
  refine rw_p 55 (.bool true) (fun _ => by kernel_rfl) (fun _ => by kernel_rfl) ?_
  refine rw_p 56 (.int .i64 ec) (fun _ => by kernel_rfl) (fun _ => by kernel_rfl) ?_
  refine rw_p 57 (.int .i64 140) (fun _ => by kernel_rfl) (fun _ => by kernel_rfl) ?_
  refine rw_p 58 (.bool true) (fun _ => by kernel_rfl) (fun _ => ol_conv (v := .bool (!((ec : Int) == (140 : Int)))) (by kernel_rfl) (congrArg Value.bool (by simpa using he2))) ?_
  refine rw_p 59 (.bool true) (fun _ => by kernel_rfl) (fun _ => by kernel_rfl) ?_
  refine rw_off 60 (fun _ => by kernel_rfl) ?_
  refine rw_off 61 (fun _ => by kernel_rfl) ?_
  refine rw_off 62 (fun _ => by kernel_rfl) ?_
  refine rw_off 63 (fun _ => by kernel_rfl) ?_
  refine rw_off 64 (fun _ => by kernel_rfl) ?_
  refine rw_off 65 (fun _ => by kernel_rfl) ?_
  refine rw_off 66 (fun _ => by kernel_rfl) ?_
  refine rw_p 67 (.bool true) (fun _ => by kernel_rfl) (fun _ => by kernel_rfl) ?_
  refine rw_p 68 (.bool true) (fun _ => by kernel_rfl) (fun _ => by kernel_rfl) ?_
  refine rw_p 4 (.bool true) (fun _ => by kernel_rfl) (fun _ => by kernel_rfl) ?_
  refine rw_nil ?_
  refine nw_then ?_
  refine cw_ret ?_
  refine nw_ret_then ?_
  refine nw_ret_body (.bool true) (fun _ => by kernel_rfl) ?_
  exact ⟨rfl, hB⟩
set_option maxHeartbeats 2000000 in
theorem joins_word2 {s t : List Int} (w : World) (ht : Tb w) (hbs : Byt s) (hls : s.length ≤ 140737488355328) (hbt : Byt t) (hlt : t.length ≤ 140737488355328) {A B C : List Int} {pa pb pc : Nat} {ea eb ec : Int} (hA : asF [] s 0 = (A, pa, ea)) (hBt : asF [] t 0 = (B, pb, eb)) (hC : asF [] (((s ++ [10]) ++ t) ++ [32]) 0 = (C, pc, ec)) (hea : ea = 0) (hlg : ¬ 256 < A.length + B.length) (heb : eb = 140) (hec : ec ≠ 0) (he2 : ec = 140) (hpc : pc = s.length + 1 + pb) (hpb : pb ≤ 140737488355328) (hAl : A.length ≤ 256) (hBl : B.length ≤ 256) : Calls Tryd.prog 3 #[.string (strOfNums s), .string (strOfNums t)] w (Law14 w) := by
  have ht0 := ht
  have hB : Bl w w := Bl.refl w
  refine cw_enter Tryd.func3 rfl 87 rfl ?_
  show CW _ _ _ _ _ _ _ [(0, .string (strOfNums s)), (1, .string (strOfNums t))] _
  subst hea
  subst heb
  subst he2
  subst hpc
  refine cw_seq ?_
  refine cw_region ?_
  refine rw_p 4 (.bool false) (fun _ => by kernel_rfl) (fun _ => by kernel_rfl) ?_
  refine rw_nil ?_
  refine nw_then ?_
  refine cw_seq ?_
  refine cw_region ?_
  refine rw_p 15 (.string (strOfNums s)) (fun _ => by kernel_rfl) (fun _ => by kernel_rfl) ?_
  refine rw_call 16 5 #[.string (strOfNums s)] (fun _ => by kernel_rfl) (fun _ => by kernel_rfl) (R := RAs w (A, pa, 0)) (by have := wasm (l := s) hbs (by omega) w ht; rw [hA] at this; exact this) ?_
  rintro _ w4 ⟨x1, n2, c3, rfl, ha5, hb6⟩
  replace ha5 : Ag w4 x1 n2 c3 A := ha5
  replace hB := hB.go hb6
  replace ht := ht.go hb6
  have hlha5 : List.length (A) = n2 := ha5.l
  refine rw_p 14 (.tuple #[.slice x1 n2 c3, .int .i64 ((pa : Nat) : Int), .int .i64 0]) (fun _ => by kernel_rfl) (fun _ => by kernel_rfl) ?_
  refine rw_p 17 (.slice x1 n2 c3) (fun _ => by kernel_rfl) (fun _ => by kernel_rfl) ?_
  refine rw_p 18 (.int .i64 ((pa : Nat) : Int)) (fun _ => by kernel_rfl) (fun _ => by kernel_rfl) ?_
  refine rw_p 19 (.int .i64 0) (fun _ => by kernel_rfl) (fun _ => by kernel_rfl) ?_
  refine rw_p 5 (.slice x1 n2 c3) (fun _ => by kernel_rfl) (fun _ => by kernel_rfl) ?_
  refine rw_p 6 (.int .i64 ((pa : Nat) : Int)) (fun _ => by kernel_rfl) (fun _ => by kernel_rfl) ?_
  refine rw_p 7 (.int .i64 0) (fun _ => by kernel_rfl) (fun _ => by kernel_rfl) ?_
  refine rw_nil ?_
  refine nw_then ?_
  refine cw_seq ?_
  refine cw_region ?_
  refine rw_p 21 (.string (strOfNums t)) (fun _ => by kernel_rfl) (fun _ => by kernel_rfl) ?_
  refine rw_call 22 5 #[.string (strOfNums t)] (fun _ => by kernel_rfl) (fun _ => by kernel_rfl) (R := RAs w4 (B, pb, 140)) (by have := wasm (l := t) hbt (by omega) w4 ht; rw [hBt] at this; exact this) ?_
  rintro _ w10 ⟨x7, n8, c9, rfl, ha11, hb12⟩
  replace ha11 : Ag w10 x7 n8 c9 B := ha11
  replace hB := hB.go hb12
  replace ht := ht.go hb12
  replace ha5 := ha5.go hb12
  have hlha11 : List.length (B) = n8 := ha11.l
  refine rw_p 20 (.tuple #[.slice x7 n8 c9, .int .i64 ((pb : Nat) : Int), .int .i64 140]) (fun _ => by kernel_rfl) (fun _ => by kernel_rfl) ?_
  refine rw_p 23 (.slice x7 n8 c9) (fun _ => by kernel_rfl) (fun _ => by kernel_rfl) ?_
  refine rw_p 24 (.int .i64 ((pb : Nat) : Int)) (fun _ => by kernel_rfl) (fun _ => by kernel_rfl) ?_
  refine rw_p 25 (.int .i64 140) (fun _ => by kernel_rfl) (fun _ => by kernel_rfl) ?_
  refine rw_p 8 (.slice x7 n8 c9) (fun _ => by kernel_rfl) (fun _ => by kernel_rfl) ?_
  refine rw_p 9 (.int .i64 ((pb : Nat) : Int)) (fun _ => by kernel_rfl) (fun _ => by kernel_rfl) ?_
  refine rw_p 10 (.int .i64 140) (fun _ => by kernel_rfl) (fun _ => by kernel_rfl) ?_
  refine rw_nil ?_
  refine nw_then ?_
  refine cw_seq ?_
  refine cw_region ?_
  refine rw_p 27 (.string (strOfNums s)) (fun _ => by kernel_rfl) (fun _ => by kernel_rfl) ?_
  have by13 : Byt (s ++ ([10])) := (byt_app hbs (byt_lit (by decide)))
  refine rw_p 28 (.string (strOfNums (s ++ ([10])))) (fun _ => by kernel_rfl) (fun _ => ol_addS _ _ _ s ([10]) rfl (by kernel_rfl) (by kernel_rfl) (by simp; omega)) ?_
  refine rw_p 29 (.string (strOfNums t)) (fun _ => by kernel_rfl) (fun _ => by kernel_rfl) ?_
  have by14 : Byt ((s ++ ([10])) ++ t) := (byt_app by13 hbt)
  refine rw_p 30 (.string (strOfNums ((s ++ ([10])) ++ t))) (fun _ => by kernel_rfl) (fun _ => ol_addS _ _ _ (s ++ ([10])) t rfl (by kernel_rfl) (by kernel_rfl) (by simp; omega)) ?_
  have by15 : Byt (((s ++ ([10])) ++ t) ++ ([32])) := (byt_app by14 (byt_lit (by decide)))
  refine rw_p 31 (.string (strOfNums (((s ++ ([10])) ++ t) ++ ([32])))) (fun _ => by kernel_rfl) (fun _ => ol_addS _ _ _ ((s ++ ([10])) ++ t) ([32]) rfl (by kernel_rfl) (by kernel_rfl) (by simp; omega)) ?_
  refine rw_call 32 5 #[.string (strOfNums (((s ++ ([10])) ++ t) ++ ([32])))] (fun _ => by kernel_rfl) (fun _ => by kernel_rfl) (R := RAs w10 (C, (s.length + 1) + pb, 140)) (by have := wasm (l := ((s ++ ([10])) ++ t) ++ ([32])) by15 (by simp; omega) w10 ht; rw [hC] at this; exact this) ?_
  rintro _ w19 ⟨x16, n17, c18, rfl, ha20, hb21⟩
  replace ha20 : Ag w19 x16 n17 c18 C := ha20
  replace hB := hB.go hb21
  replace ht := ht.go hb21
  replace ha5 := ha5.go hb21
  replace ha11 := ha11.go hb21
  have hlha20 : List.length (C) = n17 := ha20.l
  refine rw_p 26 (.tuple #[.slice x16 n17 c18, .int .i64 (((s.length + 1) + pb : Nat) : Int), .int .i64 140]) (fun _ => by kernel_rfl) (fun _ => by kernel_rfl) ?_
  refine rw_p 33 (.slice x16 n17 c18) (fun _ => by kernel_rfl) (fun _ => by kernel_rfl) ?_
  refine rw_p 34 (.int .i64 (((s.length + 1) + pb : Nat) : Int)) (fun _ => by kernel_rfl) (fun _ => by kernel_rfl) ?_
  refine rw_p 35 (.int .i64 140) (fun _ => by kernel_rfl) (fun _ => by kernel_rfl) ?_
  refine rw_p 11 (.slice x16 n17 c18) (fun _ => by kernel_rfl) (fun _ => by kernel_rfl) ?_
  refine rw_p 12 (.int .i64 (((s.length + 1) + pb : Nat) : Int)) (fun _ => by kernel_rfl) (fun _ => by kernel_rfl) ?_
  refine rw_p 13 (.int .i64 140) (fun _ => by kernel_rfl) (fun _ => by kernel_rfl) ?_
  refine rw_nil ?_
  refine nw_then ?_
  refine cw_seq ?_
  refine cw_seq ?_
  refine cw_region ?_
  refine rw_call 36 6 #[] (fun _ => by kernel_rfl) (fun _ => by kernel_rfl) (R := RVl w19 (.bool true)) (walive w19 ht) ?_
  rintro _ w22 ⟨rfl, hb23⟩
  replace hB := hB.go hb23
  replace ht := ht.go hb23
  replace ha5 := ha5.go hb23
  replace ha11 := ha11.go hb23
  replace ha20 := ha20.go hb23
  refine rw_p 37 (.bool false) (fun _ => by kernel_rfl) (fun _ => by kernel_rfl) ?_
  refine rw_p 38 (.bool false) (fun _ => by kernel_rfl) (fun _ => by kernel_rfl) ?_
  refine rw_p 39 (.int .i64 0) (fun _ => by kernel_rfl) (fun _ => by kernel_rfl) ?_
  refine rw_p 40 (.bool false) (fun _ => by kernel_rfl) (fun _ => by kernel_rfl) ?_
  refine rw_p 41 (.bool false) (fun _ => by kernel_rfl) (fun _ => by kernel_rfl) ?_
  refine rw_nil ?_
  refine nw_then ?_
  refine cw_cond_f (fun _ => by kernel_rfl) ?_
  refine cw_skip ?_
  refine nw_then ?_
  refine cw_seq ?_
  refine cw_seq ?_
  refine cw_region ?_
  refine rw_p 43 (.slice x1 n2 c3) (fun _ => by kernel_rfl) (fun _ => by kernel_rfl) ?_
  refine rw_p 44 (.int .i64 ((n2 : Nat) : Int)) (fun _ => by kernel_rfl) (fun _ => by kernel_rfl) ?_
  refine rw_p 45 (.slice x7 n8 c9) (fun _ => by kernel_rfl) (fun _ => by kernel_rfl) ?_
  refine rw_p 46 (.int .i64 ((n8 : Nat) : Int)) (fun _ => by kernel_rfl) (fun _ => by kernel_rfl) ?_
  refine rw_p 47 (.int .i64 ((n2 + n8 : Nat) : Int)) (fun _ => by kernel_rfl) (fun _ => ol_conv (v := .int .i64 (IntKind.i64.wrap (((n2 : Nat) : Int) + ((n8 : Nat) : Int)))) (by kernel_rfl) (congrArg (Value.int .i64) (show IntKind.i64.wrap (((n2 : Nat) : Int) + ((n8 : Nat) : Int)) = ((n2 + n8 : Nat) : Int) from (wrap64 (by omega) (by omega)).trans (by omega)))) ?_
  refine rw_p 48 (.bool false) (fun _ => by kernel_rfl) (fun _ => ol_conv (v := .bool (decide (((n2 + n8 : Nat) : Int) > (256 : Int)))) (by kernel_rfl) (congrArg Value.bool (decide_eq_false (by omega)))) ?_
  refine rw_nil ?_
  refine nw_then ?_
  refine cw_cond_f (fun _ => by kernel_rfl) ?_
  refine cw_skip ?_
  refine nw_then ?_
  refine cw_seq ?_
  refine cw_seq ?_
  refine cw_region ?_
  refine rw_p 51 (.int .i64 140) (fun _ => by kernel_rfl) (fun _ => by kernel_rfl) ?_
  refine rw_p 52 (.bool true) (fun _ => by kernel_rfl) (fun _ => by kernel_rfl) ?_
  refine rw_nil ?_
  refine nw_then ?_
  refine cw_cond_t (fun _ => by kernel_rfl) ?_
  refine cw_seq ?_
  refine cw_region ?_
  refine rw_p 53 (.int .i64 140) (fun _ => by kernel_rfl) (fun _ => by kernel_rfl) ?_
  refine rw_p 54 (.bool true) (fun _ => by kernel_rfl) (fun _ => by kernel_rfl) ?_
  refine rw_p 55 (.bool true) (fun _ => by kernel_rfl) (fun _ => by kernel_rfl) ?_
  refine rw_p 56 (.int .i64 140) (fun _ => by kernel_rfl) (fun _ => by kernel_rfl) ?_
  refine rw_p 57 (.int .i64 140) (fun _ => by kernel_rfl) (fun _ => by kernel_rfl) ?_
  refine rw_p 58 (.bool false) (fun _ => by kernel_rfl) (fun _ => by kernel_rfl) ?_
  refine rw_p 59 (.bool false) (fun _ => by kernel_rfl) (fun _ => by kernel_rfl) ?_
  refine rw_p 60 (.int .i64 (((s.length + 1) + pb : Nat) : Int)) (fun _ => by kernel_rfl) (fun _ => by kernel_rfl) ?_
  refine rw_p 61 (.string (strOfNums s)) (fun _ => by kernel_rfl) (fun _ => by kernel_rfl) ?_
  refine rw_p 62 (.int .i64 ((s.length : Nat) : Int)) (fun _ => by kernel_rfl) (fun _ => ol_len9 _ s rfl Tryd.underlying9 (by kernel_rfl)) ?_
  refine rw_p 63 (.int .i64 ((s.length + 1 : Nat) : Int)) (fun _ => by kernel_rfl) (fun _ => ol_conv (v := .int .i64 (IntKind.i64.wrap (((s.length : Nat) : Int) + (1 : Int)))) (by kernel_rfl) (congrArg (Value.int .i64) (show IntKind.i64.wrap (((s.length : Nat) : Int) + (1 : Int)) = ((s.length + 1 : Nat) : Int) from (wrap64 (by omega) (by omega)).trans (by omega)))) ?_
  refine rw_p 64 (.int .i64 ((pb : Nat) : Int)) (fun _ => by kernel_rfl) (fun _ => by kernel_rfl) ?_
  refine rw_p 65 (.int .i64 (((s.length + 1) + pb : Nat) : Int)) (fun _ => by kernel_rfl) (fun _ => ol_conv (v := .int .i64 (IntKind.i64.wrap (((s.length + 1 : Nat) : Int) + ((pb : Nat) : Int)))) (by kernel_rfl) (congrArg (Value.int .i64) (show IntKind.i64.wrap (((s.length + 1 : Nat) : Int) + ((pb : Nat) : Int)) = (((s.length + 1) + pb : Nat) : Int) from (wrap64 (by omega) (by omega)).trans (by omega)))) ?_
  refine rw_p 66 (.bool true) (fun _ => by kernel_rfl) (fun _ => ol_conv (v := .bool ((((s.length + 1) + pb : Nat) : Int) == (((s.length + 1) + pb : Nat) : Int))) (by kernel_rfl) (congrArg Value.bool (beq_self_eq_true _))) ?_
  refine rw_p 67 (.bool true) (fun _ => by kernel_rfl) (fun _ => by kernel_rfl) ?_
  refine rw_p 68 (.bool true) (fun _ => by kernel_rfl) (fun _ => by kernel_rfl) ?_
  refine rw_p 4 (.bool true) (fun _ => by kernel_rfl) (fun _ => by kernel_rfl) ?_
  refine rw_nil ?_
  refine nw_then ?_
  refine cw_ret ?_
  refine nw_ret_then ?_
  refine nw_ret_body (.bool true) (fun _ => by kernel_rfl) ?_
  exact ⟨rfl, hB⟩
set_option maxHeartbeats 2000000 in
theorem joins_bad {s t : List Int} (w : World) (ht : Tb w) (hbs : Byt s) (hls : s.length ≤ 140737488355328) (hbt : Byt t) (hlt : t.length ≤ 140737488355328) {A B C : List Int} {pa pb pc : Nat} {ea eb ec : Int} (hA : asF [] s 0 = (A, pa, ea)) (hBt : asF [] t 0 = (B, pb, eb)) (hC : asF [] (((s ++ [10]) ++ t) ++ [32]) 0 = (C, pc, ec)) (hea : ea = 0) (hlg : ¬ 256 < A.length + B.length) (heb : eb ≠ 140) (heb0 : eb ≠ 0) (hec : ec ≠ 0) (hAl : A.length ≤ 256) (hBl : B.length ≤ 256) : Calls Tryd.prog 3 #[.string (strOfNums s), .string (strOfNums t)] w (Law14 w) := by
  have ht0 := ht
  have hB : Bl w w := Bl.refl w
  refine cw_enter Tryd.func3 rfl 87 rfl ?_
  show CW _ _ _ _ _ _ _ [(0, .string (strOfNums s)), (1, .string (strOfNums t))] _
  subst hea
  refine cw_seq ?_
  refine cw_region ?_
  refine rw_p 4 (.bool false) (fun _ => by kernel_rfl) (fun _ => by kernel_rfl) ?_
  refine rw_nil ?_
  refine nw_then ?_
  refine cw_seq ?_
  refine cw_region ?_
  refine rw_p 15 (.string (strOfNums s)) (fun _ => by kernel_rfl) (fun _ => by kernel_rfl) ?_
  refine rw_call 16 5 #[.string (strOfNums s)] (fun _ => by kernel_rfl) (fun _ => by kernel_rfl) (R := RAs w (A, pa, 0)) (by have := wasm (l := s) hbs (by omega) w ht; rw [hA] at this; exact this) ?_
  rintro _ w4 ⟨x1, n2, c3, rfl, ha5, hb6⟩
  replace ha5 : Ag w4 x1 n2 c3 A := ha5
  replace hB := hB.go hb6
  replace ht := ht.go hb6
  have hlha5 : List.length (A) = n2 := ha5.l
  refine rw_p 14 (.tuple #[.slice x1 n2 c3, .int .i64 ((pa : Nat) : Int), .int .i64 0]) (fun _ => by kernel_rfl) (fun _ => by kernel_rfl) ?_
  refine rw_p 17 (.slice x1 n2 c3) (fun _ => by kernel_rfl) (fun _ => by kernel_rfl) ?_
  refine rw_p 18 (.int .i64 ((pa : Nat) : Int)) (fun _ => by kernel_rfl) (fun _ => by kernel_rfl) ?_
  refine rw_p 19 (.int .i64 0) (fun _ => by kernel_rfl) (fun _ => by kernel_rfl) ?_
  refine rw_p 5 (.slice x1 n2 c3) (fun _ => by kernel_rfl) (fun _ => by kernel_rfl) ?_
  refine rw_p 6 (.int .i64 ((pa : Nat) : Int)) (fun _ => by kernel_rfl) (fun _ => by kernel_rfl) ?_
  refine rw_p 7 (.int .i64 0) (fun _ => by kernel_rfl) (fun _ => by kernel_rfl) ?_
  refine rw_nil ?_
  refine nw_then ?_
  refine cw_seq ?_
  refine cw_region ?_
  refine rw_p 21 (.string (strOfNums t)) (fun _ => by kernel_rfl) (fun _ => by kernel_rfl) ?_
  refine rw_call 22 5 #[.string (strOfNums t)] (fun _ => by kernel_rfl) (fun _ => by kernel_rfl) (R := RAs w4 (B, pb, eb)) (by have := wasm (l := t) hbt (by omega) w4 ht; rw [hBt] at this; exact this) ?_
  rintro _ w10 ⟨x7, n8, c9, rfl, ha11, hb12⟩
  replace ha11 : Ag w10 x7 n8 c9 B := ha11
  replace hB := hB.go hb12
  replace ht := ht.go hb12
  replace ha5 := ha5.go hb12
  have hlha11 : List.length (B) = n8 := ha11.l
  refine rw_p 20 (.tuple #[.slice x7 n8 c9, .int .i64 ((pb : Nat) : Int), .int .i64 eb]) (fun _ => by kernel_rfl) (fun _ => by kernel_rfl) ?_
  refine rw_p 23 (.slice x7 n8 c9) (fun _ => by kernel_rfl) (fun _ => by kernel_rfl) ?_
  refine rw_p 24 (.int .i64 ((pb : Nat) : Int)) (fun _ => by kernel_rfl) (fun _ => by kernel_rfl) ?_
  refine rw_p 25 (.int .i64 eb) (fun _ => by kernel_rfl) (fun _ => by kernel_rfl) ?_
  refine rw_p 8 (.slice x7 n8 c9) (fun _ => by kernel_rfl) (fun _ => by kernel_rfl) ?_
  refine rw_p 9 (.int .i64 ((pb : Nat) : Int)) (fun _ => by kernel_rfl) (fun _ => by kernel_rfl) ?_
  refine rw_p 10 (.int .i64 eb) (fun _ => by kernel_rfl) (fun _ => by kernel_rfl) ?_
  refine rw_nil ?_
  refine nw_then ?_
  refine cw_seq ?_
  refine cw_region ?_
  refine rw_p 27 (.string (strOfNums s)) (fun _ => by kernel_rfl) (fun _ => by kernel_rfl) ?_
  have by13 : Byt (s ++ ([10])) := (byt_app hbs (byt_lit (by decide)))
  refine rw_p 28 (.string (strOfNums (s ++ ([10])))) (fun _ => by kernel_rfl) (fun _ => ol_addS _ _ _ s ([10]) rfl (by kernel_rfl) (by kernel_rfl) (by simp; omega)) ?_
  refine rw_p 29 (.string (strOfNums t)) (fun _ => by kernel_rfl) (fun _ => by kernel_rfl) ?_
  have by14 : Byt ((s ++ ([10])) ++ t) := (byt_app by13 hbt)
  refine rw_p 30 (.string (strOfNums ((s ++ ([10])) ++ t))) (fun _ => by kernel_rfl) (fun _ => ol_addS _ _ _ (s ++ ([10])) t rfl (by kernel_rfl) (by kernel_rfl) (by simp; omega)) ?_
  have by15 : Byt (((s ++ ([10])) ++ t) ++ ([32])) := (byt_app by14 (byt_lit (by decide)))
  refine rw_p 31 (.string (strOfNums (((s ++ ([10])) ++ t) ++ ([32])))) (fun _ => by kernel_rfl) (fun _ => ol_addS _ _ _ ((s ++ ([10])) ++ t) ([32]) rfl (by kernel_rfl) (by kernel_rfl) (by simp; omega)) ?_
  refine rw_call 32 5 #[.string (strOfNums (((s ++ ([10])) ++ t) ++ ([32])))] (fun _ => by kernel_rfl) (fun _ => by kernel_rfl) (R := RAs w10 (C, pc, ec)) (by have := wasm (l := ((s ++ ([10])) ++ t) ++ ([32])) by15 (by simp; omega) w10 ht; rw [hC] at this; exact this) ?_
  rintro _ w19 ⟨x16, n17, c18, rfl, ha20, hb21⟩
  replace ha20 : Ag w19 x16 n17 c18 C := ha20
  replace hB := hB.go hb21
  replace ht := ht.go hb21
  replace ha5 := ha5.go hb21
  replace ha11 := ha11.go hb21
  have hlha20 : List.length (C) = n17 := ha20.l
  refine rw_p 26 (.tuple #[.slice x16 n17 c18, .int .i64 ((pc : Nat) : Int), .int .i64 ec]) (fun _ => by kernel_rfl) (fun _ => by kernel_rfl) ?_
  refine rw_p 33 (.slice x16 n17 c18) (fun _ => by kernel_rfl) (fun _ => by kernel_rfl) ?_
  refine rw_p 34 (.int .i64 ((pc : Nat) : Int)) (fun _ => by kernel_rfl) (fun _ => by kernel_rfl) ?_
  refine rw_p 35 (.int .i64 ec) (fun _ => by kernel_rfl) (fun _ => by kernel_rfl) ?_
  refine rw_p 11 (.slice x16 n17 c18) (fun _ => by kernel_rfl) (fun _ => by kernel_rfl) ?_
  refine rw_p 12 (.int .i64 ((pc : Nat) : Int)) (fun _ => by kernel_rfl) (fun _ => by kernel_rfl) ?_
  refine rw_p 13 (.int .i64 ec) (fun _ => by kernel_rfl) (fun _ => by kernel_rfl) ?_
  refine rw_nil ?_
  refine nw_then ?_
  refine cw_seq ?_
  refine cw_seq ?_
  refine cw_region ?_
  refine rw_call 36 6 #[] (fun _ => by kernel_rfl) (fun _ => by kernel_rfl) (R := RVl w19 (.bool true)) (walive w19 ht) ?_
  rintro _ w22 ⟨rfl, hb23⟩
  replace hB := hB.go hb23
  replace ht := ht.go hb23
  replace ha5 := ha5.go hb23
  replace ha11 := ha11.go hb23
  replace ha20 := ha20.go hb23
  refine rw_p 37 (.bool false) (fun _ => by kernel_rfl) (fun _ => by kernel_rfl) ?_
  refine rw_p 38 (.bool false) (fun _ => by kernel_rfl) (fun _ => by kernel_rfl) ?_
  refine rw_p 39 (.int .i64 0) (fun _ => by kernel_rfl) (fun _ => by kernel_rfl) ?_
  refine rw_p 40 (.bool false) (fun _ => by kernel_rfl) (fun _ => by kernel_rfl) ?_
  refine rw_p 41 (.bool false) (fun _ => by kernel_rfl) (fun _ => by kernel_rfl) ?_
  refine rw_nil ?_
  refine nw_then ?_
  refine cw_cond_f (fun _ => by kernel_rfl) ?_
  refine cw_skip ?_
  refine nw_then ?_
  refine cw_seq ?_
  refine cw_seq ?_
  refine cw_region ?_
  refine rw_p 43 (.slice x1 n2 c3) (fun _ => by kernel_rfl) (fun _ => by kernel_rfl) ?_
  refine rw_p 44 (.int .i64 ((n2 : Nat) : Int)) (fun _ => by kernel_rfl) (fun _ => by kernel_rfl) ?_
  refine rw_p 45 (.slice x7 n8 c9) (fun _ => by kernel_rfl) (fun _ => by kernel_rfl) ?_
  refine rw_p 46 (.int .i64 ((n8 : Nat) : Int)) (fun _ => by kernel_rfl) (fun _ => by kernel_rfl) ?_
  refine rw_p 47 (.int .i64 ((n2 + n8 : Nat) : Int)) (fun _ => by kernel_rfl) (fun _ => ol_conv (v := .int .i64 (IntKind.i64.wrap (((n2 : Nat) : Int) + ((n8 : Nat) : Int)))) (by kernel_rfl) (congrArg (Value.int .i64) (show IntKind.i64.wrap (((n2 : Nat) : Int) + ((n8 : Nat) : Int)) = ((n2 + n8 : Nat) : Int) from (wrap64 (by omega) (by omega)).trans (by omega)))) ?_
  refine rw_p 48 (.bool false) (fun _ => by kernel_rfl) (fun _ => ol_conv (v := .bool (decide (((n2 + n8 : Nat) : Int) > (256 : Int)))) (by kernel_rfl) (congrArg Value.bool (decide_eq_false (by omega)))) ?_
  refine rw_nil ?_
  refine nw_then ?_
  refine cw_cond_f (fun _ => by kernel_rfl) ?_
  refine cw_skip ?_
  refine nw_then ?_
  refine cw_seq ?_
  refine cw_seq ?_
  refine cw_region ?_
  refine rw_p 51 (.int .i64 eb) (fun _ => by kernel_rfl) (fun _ => by kernel_rfl) ?_
  refine rw_p 52 (.bool false) (fun _ => by kernel_rfl) (fun _ => ol_conv (v := .bool ((eb : Int) == (140 : Int))) (by kernel_rfl) (congrArg Value.bool (by simpa using heb))) ?_
  refine rw_nil ?_
  refine nw_then ?_
  refine cw_cond_f (fun _ => by kernel_rfl) ?_
  refine cw_skip ?_
  refine nw_then ?_
  refine cw_seq ?_
  refine cw_seq ?_
  refine cw_region ?_
  refine rw_p 69 (.int .i64 eb) (fun _ => by kernel_rfl) (fun _ => by kernel_rfl) ?_
  refine rw_p 70 (.bool true) (fun _ => by kernel_rfl) (fun _ => ol_conv (v := .bool (!((eb : Int) == (0 : Int)))) (by kernel_rfl) (congrArg Value.bool (by simpa using heb0))) ?_
  refine rw_nil ?_
  refine nw_then ?_
  refine cw_cond_t (fun _ => by kernel_rfl) ?_
  refine cw_seq ?_
  refine cw_region ?_
  refine rw_p 71 (.int .i64 ec) (fun _ => by kernel_rfl) (fun _ => by kernel_rfl) ?_
  refine rw_p 72 (.bool true) (fun _ => by kernel_rfl) (fun _ => ol_conv (v := .bool (!((ec : Int) == (0 : Int)))) (by kernel_rfl) (congrArg Value.bool (by simpa using hec))) ?_
  refine rw_p 4 (.bool true) (fun _ => by kernel_rfl) (fun _ => by kernel_rfl) ?_
  refine rw_nil ?_
  refine nw_then ?_
  refine cw_ret ?_
  refine nw_ret_then ?_
  refine nw_ret_body (.bool true) (fun _ => by kernel_rfl) ?_
  exact ⟨rfl, hB⟩
set_option maxHeartbeats 2000000 in
theorem joins_ok {s t : List Int} (w : World) (ht : Tb w) (hbs : Byt s) (hls : s.length ≤ 140737488355328) (hbt : Byt t) (hlt : t.length ≤ 140737488355328) {A B C : List Int} {pa pb pc : Nat} {ea eb ec : Int} (hA : asF [] s 0 = (A, pa, ea)) (hBt : asF [] t 0 = (B, pb, eb)) (hC : asF [] (((s ++ [10]) ++ t) ++ [32]) 0 = (C, pc, ec)) (hea : ea = 0) (hlg : ¬ 256 < A.length + B.length) (heb0 : eb = 0) (hec : ec = 0) (hpc : pc = 0) (hCC : C = A ++ B) (hAl : A.length ≤ 256) (hBl : B.length ≤ 256) : Calls Tryd.prog 3 #[.string (strOfNums s), .string (strOfNums t)] w (Law14 w) := by
  have ht0 := ht
  have hB : Bl w w := Bl.refl w
  refine cw_enter Tryd.func3 rfl 87 rfl ?_
  show CW _ _ _ _ _ _ _ [(0, .string (strOfNums s)), (1, .string (strOfNums t))] _
  subst hea
  subst heb0
  subst hec
  subst hpc
  subst hCC
  refine cw_seq ?_
  refine cw_region ?_
  refine rw_p 4 (.bool false) (fun _ => by kernel_rfl) (fun _ => by kernel_rfl) ?_
  refine rw_nil ?_
  refine nw_then ?_
  refine cw_seq ?_
  refine cw_region ?_
  refine rw_p 15 (.string (strOfNums s)) (fun _ => by kernel_rfl) (fun _ => by kernel_rfl) ?_
  refine rw_call 16 5 #[.string (strOfNums s)] (fun _ => by kernel_rfl) (fun _ => by kernel_rfl) (R := RAs w (A, pa, 0)) (by have := wasm (l := s) hbs (by omega) w ht; rw [hA] at this; exact this) ?_
  rintro _ w4 ⟨x1, n2, c3, rfl, ha5, hb6⟩
  replace ha5 : Ag w4 x1 n2 c3 A := ha5
  replace hB := hB.go hb6
  replace ht := ht.go hb6
  have hlha5 : List.length (A) = n2 := ha5.l
  refine rw_p 14 (.tuple #[.slice x1 n2 c3, .int .i64 ((pa : Nat) : Int), .int .i64 0]) (fun _ => by kernel_rfl) (fun _ => by kernel_rfl) ?_
  refine rw_p 17 (.slice x1 n2 c3) (fun _ => by kernel_rfl) (fun _ => by kernel_rfl) ?_
  refine rw_p 18 (.int .i64 ((pa : Nat) : Int)) (fun _ => by kernel_rfl) (fun _ => by kernel_rfl) ?_
  refine rw_p 19 (.int .i64 0) (fun _ => by kernel_rfl) (fun _ => by kernel_rfl) ?_
  refine rw_p 5 (.slice x1 n2 c3) (fun _ => by kernel_rfl) (fun _ => by kernel_rfl) ?_
  refine rw_p 6 (.int .i64 ((pa : Nat) : Int)) (fun _ => by kernel_rfl) (fun _ => by kernel_rfl) ?_
  refine rw_p 7 (.int .i64 0) (fun _ => by kernel_rfl) (fun _ => by kernel_rfl) ?_
  refine rw_nil ?_
  refine nw_then ?_
  refine cw_seq ?_
  refine cw_region ?_
  refine rw_p 21 (.string (strOfNums t)) (fun _ => by kernel_rfl) (fun _ => by kernel_rfl) ?_
  refine rw_call 22 5 #[.string (strOfNums t)] (fun _ => by kernel_rfl) (fun _ => by kernel_rfl) (R := RAs w4 (B, pb, 0)) (by have := wasm (l := t) hbt (by omega) w4 ht; rw [hBt] at this; exact this) ?_
  rintro _ w10 ⟨x7, n8, c9, rfl, ha11, hb12⟩
  replace ha11 : Ag w10 x7 n8 c9 B := ha11
  replace hB := hB.go hb12
  replace ht := ht.go hb12
  replace ha5 := ha5.go hb12
  have hlha11 : List.length (B) = n8 := ha11.l
  refine rw_p 20 (.tuple #[.slice x7 n8 c9, .int .i64 ((pb : Nat) : Int), .int .i64 0]) (fun _ => by kernel_rfl) (fun _ => by kernel_rfl) ?_
  refine rw_p 23 (.slice x7 n8 c9) (fun _ => by kernel_rfl) (fun _ => by kernel_rfl) ?_
  refine rw_p 24 (.int .i64 ((pb : Nat) : Int)) (fun _ => by kernel_rfl) (fun _ => by kernel_rfl) ?_
  refine rw_p 25 (.int .i64 0) (fun _ => by kernel_rfl) (fun _ => by kernel_rfl) ?_
  refine rw_p 8 (.slice x7 n8 c9) (fun _ => by kernel_rfl) (fun _ => by kernel_rfl) ?_
  refine rw_p 9 (.int .i64 ((pb : Nat) : Int)) (fun _ => by kernel_rfl) (fun _ => by kernel_rfl) ?_
  refine rw_p 10 (.int .i64 0) (fun _ => by kernel_rfl) (fun _ => by kernel_rfl) ?_
  refine rw_nil ?_
  refine nw_then ?_
  refine cw_seq ?_
  refine cw_region ?_
  refine rw_p 27 (.string (strOfNums s)) (fun _ => by kernel_rfl) (fun _ => by kernel_rfl) ?_
  have by13 : Byt (s ++ ([10])) := (byt_app hbs (byt_lit (by decide)))
  refine rw_p 28 (.string (strOfNums (s ++ ([10])))) (fun _ => by kernel_rfl) (fun _ => ol_addS _ _ _ s ([10]) rfl (by kernel_rfl) (by kernel_rfl) (by simp; omega)) ?_
  refine rw_p 29 (.string (strOfNums t)) (fun _ => by kernel_rfl) (fun _ => by kernel_rfl) ?_
  have by14 : Byt ((s ++ ([10])) ++ t) := (byt_app by13 hbt)
  refine rw_p 30 (.string (strOfNums ((s ++ ([10])) ++ t))) (fun _ => by kernel_rfl) (fun _ => ol_addS _ _ _ (s ++ ([10])) t rfl (by kernel_rfl) (by kernel_rfl) (by simp; omega)) ?_
  have by15 : Byt (((s ++ ([10])) ++ t) ++ ([32])) := (byt_app by14 (byt_lit (by decide)))
  refine rw_p 31 (.string (strOfNums (((s ++ ([10])) ++ t) ++ ([32])))) (fun _ => by kernel_rfl) (fun _ => ol_addS _ _ _ ((s ++ ([10])) ++ t) ([32]) rfl (by kernel_rfl) (by kernel_rfl) (by simp; omega)) ?_
  refine rw_call 32 5 #[.string (strOfNums (((s ++ ([10])) ++ t) ++ ([32])))] (fun _ => by kernel_rfl) (fun _ => by kernel_rfl) (R := RAs w10 (A ++ B, 0, 0)) (by have := wasm (l := ((s ++ ([10])) ++ t) ++ ([32])) by15 (by simp; omega) w10 ht; rw [hC] at this; exact this) ?_
  rintro _ w19 ⟨x16, n17, c18, rfl, ha20, hb21⟩
  replace ha20 : Ag w19 x16 n17 c18 (A ++ B) := ha20
  replace hB := hB.go hb21
  replace ht := ht.go hb21
  replace ha5 := ha5.go hb21
  replace ha11 := ha11.go hb21
  have hlha20 : List.length (A ++ B) = n17 := ha20.l
  refine rw_p 26 (.tuple #[.slice x16 n17 c18, .int .i64 ((0 : Nat) : Int), .int .i64 0]) (fun _ => by kernel_rfl) (fun _ => by kernel_rfl) ?_
  refine rw_p 33 (.slice x16 n17 c18) (fun _ => by kernel_rfl) (fun _ => by kernel_rfl) ?_
  refine rw_p 34 (.int .i64 ((0 : Nat) : Int)) (fun _ => by kernel_rfl) (fun _ => by kernel_rfl) ?_
  refine rw_p 35 (.int .i64 0) (fun _ => by kernel_rfl) (fun _ => by kernel_rfl) ?_
  refine rw_p 11 (.slice x16 n17 c18) (fun _ => by kernel_rfl) (fun _ => by kernel_rfl) ?_
  refine rw_p 12 (.int .i64 ((0 : Nat) : Int)) (fun _ => by kernel_rfl) (fun _ => by kernel_rfl) ?_
  refine rw_p 13 (.int .i64 0) (fun _ => by kernel_rfl) (fun _ => by kernel_rfl) ?_
  refine rw_nil ?_
  refine nw_then ?_
  refine cw_seq ?_
  refine cw_seq ?_
  refine cw_region ?_
  refine rw_call 36 6 #[] (fun _ => by kernel_rfl) (fun _ => by kernel_rfl) (R := RVl w19 (.bool true)) (walive w19 ht) ?_
  rintro _ w22 ⟨rfl, hb23⟩
  replace hB := hB.go hb23
  replace ht := ht.go hb23
  replace ha5 := ha5.go hb23
  replace ha11 := ha11.go hb23
  replace ha20 := ha20.go hb23
  refine rw_p 37 (.bool false) (fun _ => by kernel_rfl) (fun _ => by kernel_rfl) ?_
  refine rw_p 38 (.bool false) (fun _ => by kernel_rfl) (fun _ => by kernel_rfl) ?_
  refine rw_p 39 (.int .i64 0) (fun _ => by kernel_rfl) (fun _ => by kernel_rfl) ?_
  refine rw_p 40 (.bool false) (fun _ => by kernel_rfl) (fun _ => by kernel_rfl) ?_
  refine rw_p 41 (.bool false) (fun _ => by kernel_rfl) (fun _ => by kernel_rfl) ?_
  refine rw_nil ?_
  refine nw_then ?_
  refine cw_cond_f (fun _ => by kernel_rfl) ?_
  refine cw_skip ?_
  refine nw_then ?_
  refine cw_seq ?_
  refine cw_seq ?_
  refine cw_region ?_
  refine rw_p 43 (.slice x1 n2 c3) (fun _ => by kernel_rfl) (fun _ => by kernel_rfl) ?_
  refine rw_p 44 (.int .i64 ((n2 : Nat) : Int)) (fun _ => by kernel_rfl) (fun _ => by kernel_rfl) ?_
  refine rw_p 45 (.slice x7 n8 c9) (fun _ => by kernel_rfl) (fun _ => by kernel_rfl) ?_
  refine rw_p 46 (.int .i64 ((n8 : Nat) : Int)) (fun _ => by kernel_rfl) (fun _ => by kernel_rfl) ?_
  refine rw_p 47 (.int .i64 ((n2 + n8 : Nat) : Int)) (fun _ => by kernel_rfl) (fun _ => ol_conv (v := .int .i64 (IntKind.i64.wrap (((n2 : Nat) : Int) + ((n8 : Nat) : Int)))) (by kernel_rfl) (congrArg (Value.int .i64) (show IntKind.i64.wrap (((n2 : Nat) : Int) + ((n8 : Nat) : Int)) = ((n2 + n8 : Nat) : Int) from (wrap64 (by omega) (by omega)).trans (by omega)))) ?_
  refine rw_p 48 (.bool false) (fun _ => by kernel_rfl) (fun _ => ol_conv (v := .bool (decide (((n2 + n8 : Nat) : Int) > (256 : Int)))) (by kernel_rfl) (congrArg Value.bool (decide_eq_false (by omega)))) ?_
  refine rw_nil ?_
  refine nw_then ?_
  refine cw_cond_f (fun _ => by kernel_rfl) ?_
  refine cw_skip ?_
  refine nw_then ?_
  refine cw_seq ?_
  refine cw_seq ?_
  refine cw_region ?_
  refine rw_p 51 (.int .i64 0) (fun _ => by kernel_rfl) (fun _ => by kernel_rfl) ?_
  refine rw_p 52 (.bool false) (fun _ => by kernel_rfl) (fun _ => by kernel_rfl) ?_
  refine rw_nil ?_
  refine nw_then ?_
  refine cw_cond_f (fun _ => by kernel_rfl) ?_
  refine cw_skip ?_
  refine nw_then ?_
  refine cw_seq ?_
  refine cw_seq ?_
  refine cw_region ?_
  refine rw_p 69 (.int .i64 0) (fun _ => by kernel_rfl) (fun _ => by kernel_rfl) ?_
  refine rw_p 70 (.bool false) (fun _ => by kernel_rfl) (fun _ => by kernel_rfl) ?_
  refine rw_nil ?_
  refine nw_then ?_
  refine cw_cond_f (fun _ => by kernel_rfl) ?_
  refine cw_skip ?_
  refine nw_then ?_
  refine cw_seq ?_
  refine cw_region ?_
  refine rw_p 73 (.int .i64 0) (fun _ => by kernel_rfl) (fun _ => by kernel_rfl) ?_
  refine rw_p 74 (.bool true) (fun _ => by kernel_rfl) (fun _ => by kernel_rfl) ?_
  refine rw_p 75 (.bool true) (fun _ => by kernel_rfl) (fun _ => by kernel_rfl) ?_
  refine rw_p 76 (.int .i64 ((0 : Nat) : Int)) (fun _ => by kernel_rfl) (fun _ => by kernel_rfl) ?_
  refine rw_p 77 (.bool true) (fun _ => by kernel_rfl) (fun _ => ol_conv (v := .bool (((0 : Nat) : Int) == (0 : Int))) (by kernel_rfl) (congrArg Value.bool (rfl))) ?_
  refine rw_p 78 (.bool true) (fun _ => by kernel_rfl) (fun _ => by kernel_rfl) ?_
  refine rw_p 79 (.bool true) (fun _ => by kernel_rfl) (fun _ => by kernel_rfl) ?_
  refine rw_p 80 (.slice x16 n17 c18) (fun _ => by kernel_rfl) (fun _ => by kernel_rfl) ?_
  refine rw_p 81 (.slice x1 n2 c3) (fun _ => by kernel_rfl) (fun _ => by kernel_rfl) ?_
  have hB0 := hB
  have ht0 := ht
  have ha50 := ha5
  have ha110 := ha11
  have ha200 := ha20
  obtain ⟨v24, w25, hr26, ho27, hb28⟩ := app_run (ownB_nil w22 w22.heap.size) ha5 (by simp; omega) (Nat.le_refl _)
  rw [List.nil_append] at ho27
  refine rw_v 82 v24 (fun _ => by kernel_rfl) (fun _ => ol_app hr26 _ _ rfl (by kernel_rfl) (by kernel_rfl)) ?_
  replace hB := hB.go hb28
  replace ht := ht.go hb28
  replace ha5 := ha5.go hb28
  replace ha11 := ha11.go hb28
  replace ha20 := ha20.go hb28
  refine rw_p 83 (.slice x7 n8 c9) (fun _ => by kernel_rfl) (fun _ => by kernel_rfl) ?_
  obtain ⟨v32, w33, hr34, ho35, hb36⟩ := app_run ho27 ha11 (by omega) hb28.size
  have hby : Byt (A ++ B) := byt_app ha5.b ha11.b
  obtain ⟨x37, c38, rfl, ha39⟩ := OwnB.ag ho35 hby
  refine rw_v 84 (.slice x37 (A ++ B).length c38) (fun _ => by kernel_rfl) (fun _ => ol_app hr34 _ _ rfl (by kernel_rfl) (by kernel_rfl)) ?_
  have hbb := Below.trans hb28 hb36
  replace hB := hB0.go hbb
  replace ht := ht0.go hbb
  replace ha5 := ha50.go hbb
  replace ha11 := ha110.go hbb
  replace ha20 := ha200.go hbb
  refine rw_call 85 7 #[.slice x16 n17 c18, .slice x37 (A ++ B).length c38] (fun _ => by kernel_rfl) (fun _ => by kernel_rfl) (R := RVl w33 (.bool true)) (wsame w33 ha20 ha39) ?_
  rintro _ w40 ⟨rfl, hb41⟩
  replace hB := hB.go hb41
  replace ht := ht.go hb41
  replace ha5 := ha5.go hb41
  replace ha11 := ha11.go hb41
  replace ha20 := ha20.go hb41
  replace ha39 := ha39.go hb41
  refine rw_p 86 (.bool true) (fun _ => by kernel_rfl) (fun _ => by kernel_rfl) ?_
  refine rw_p 4 (.bool true) (fun _ => by kernel_rfl) (fun _ => by kernel_rfl) ?_
  refine rw_nil ?_
  refine nw_then ?_
  refine cw_ret ?_
  refine nw_ret_body (.bool true) (fun _ => by kernel_rfl) ?_
  exact ⟨rfl, hB⟩
theorem as_place : ∀ (n : Nat) (code t : List Int) (p : Nat), t.length ≤ n → (asF code t p).2.1 ≤ p + t.length := by
  intro n
  induction n with
  | zero =>
    intro code t p h
    have : t = [] := List.eq_nil_of_length_eq_zero (by omega)
    subst this
    rw [as_end rfl]
    exact Nat.zero_le _
  | succ n ih =>
    intro code t p h
    by_cases h0 : nxW t = []
    · rw [as_end h0]; exact Nat.zero_le _
    · have hs := s1_len (p := p) h0
      have hn := nxW_len t
      by_cases he : (s1 t p).1.2.2 = 0
      · by_cases hl : 256 < code.length + (s1 t p).1.1.length
        · rw [as_long h0 he hl]; show p + rn t true ≤ _; omega
        · rw [as_go h0 he hl]
          have := ih (code ++ (s1 t p).1.1) (s1 t p).2.1 (s1 t p).2.2 (by omega)
          omega
      · rw [as_err h0 he]
        show (s1 t p).1.2.1 ≤ _
        have hn2 := nxW_len (nxR t)
        unfold s1
        cases hbg : bgP (nxW t) with
        | none => rw [st_no hbg]; show p + rn t true ≤ _; omega
        | some o =>
          obtain ⟨hd, sz⟩ := o
          unfold stP
          rw [hbg]
          simp only
          split
          · exact Nat.zero_le _
          · split
            · show p + rn t true + (nxW t).length + rn (nxR t) true ≤ _; omega
            · exact Nat.zero_le _
theorem joins_any {s t : List Int} (w : World) (ht : Tb w) (hbs : Byt s) (hls : s.length ≤ 140737488355328) (hbt : Byt t) (hlt : t.length ≤ 140737488355328) : Calls Tryd.prog 3 #[.string (strOfNums s), .string (strOfNums t)] w (Law14 w) := by
  have nb : Byt ([] : List Int) := fun x hx => absurd hx List.not_mem_nil
  obtain ⟨_, hA2, hA3⟩ := as_ok s.length [] s 0 (Nat.le_refl _) nb (by simp)
  obtain ⟨_, hB2, hB3⟩ := as_ok t.length [] t 0 (Nat.le_refl _) nb (by simp)
  have hpl := as_place t.length [] t 0 (Nat.le_refl _)
  obtain ⟨A, pa, ea, hA⟩ : ∃ A pa ea, asF [] s 0 = (A, pa, ea) := ⟨_, _, _, rfl⟩
  obtain ⟨B, pb, eb, hB⟩ : ∃ B pb eb, asF [] t 0 = (B, pb, eb) := ⟨_, _, _, rfl⟩
  obtain ⟨C, pc, ec, hC⟩ : ∃ C pc ec, asF [] (((s ++ [10]) ++ t) ++ [32]) 0 = (C, pc, ec) := ⟨_, _, _, rfl⟩
  rw [hA] at hA2 hA3
  rw [hB] at hB2 hB3 hpl
  simp only at hA2 hB2 hB3 hpl
  by_cases hea : ea = 0
  · have hj := joined (t := t) (pa := pa) (by rw [hA, hea]) hA2
    rw [hB, hC] at hj
    simp only at hj
    obtain ⟨j1, j2, j3⟩ := hj
    by_cases hlg : 256 < A.length + B.length
    · by_cases heb0 : eb = 0
      · exact joins_long w ht hbs hls hbt hlt hA hB hC hea hlg ((j1 heb0).1 hlg) hA2 hB2
      · have := hB3 heb0
        rw [this] at hlg
        simp at hlg
        omega
    · by_cases heb : eb = 140
      · have hec := j2 (by omega)
        rcases j3 heb with h | h
        · exact joins_word1 w ht hbs hls hbt hlt hA hB hC hea hlg heb hec h hA2 hB2
        · by_cases h140 : ec = 140
          · exact joins_word2 w ht hbs hls hbt hlt hA hB hC hea hlg heb hec h140 h (by omega) hA2 hB2
          · exact joins_word1 w ht hbs hls hbt hlt hA hB hC hea hlg heb hec h140 hA2 hB2
      · by_cases heb0 : eb = 0
        · have := (j1 heb0).2 hlg
          obtain ⟨e1, e2⟩ := Prod.mk.inj this
          obtain ⟨e2, e3⟩ := Prod.mk.inj e2
          exact joins_ok w ht hbs hls hbt hlt hA hB hC hea hlg heb0 e3 e2 e1 hA2 hB2
        · exact joins_bad w ht hbs hls hbt hlt hA hB hC hea hlg heb heb0 (j2 heb0) hA2 hB2
  · exact joins_err w ht hbs hls hbt hlt hA hB hC hea hA2 hB2
end Go.Proofs.YtbjjboicfghldabDoor

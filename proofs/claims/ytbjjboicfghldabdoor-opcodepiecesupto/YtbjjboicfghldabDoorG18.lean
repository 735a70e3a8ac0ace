/- What the program's sizeOf, pushOf, withNumber, sizedPush, valueOf, pieceSize and written answer. -/
import Derived.Test.YtbjjboicfghldabDoorG17
namespace Go.Proofs.YtbjjboicfghldabDoor
open Go.RowKit
open Wo
set_option linter.unusedVariables false
set_option maxRecDepth 100000
theorem wsize {m : Nat} (hm : m < W64) (w : World) : Calls Tryd.prog 24 #[.int .u64 ((m : Nat) : Int)] w fun e w' => ∃ v, e = .returned v ∧ RVl w (.int .i64 ((szo m : Nat) : Int)) v w' := by
  have hB : Bl w w := Bl.refl w
  refine cw_enter Tryd.func24 rfl 7 rfl ?_
  show CW _ _ _ _ _ _ _ [(0, .int .u64 ((m : Nat) : Int))] _
  refine cw_seq ?_
  refine cw_region ?_
  refine rw_p 2 (.int .i64 0) (fun _ => by kernel_rfl) (fun _ => by kernel_rfl) ?_
  refine rw_nil ?_
  refine nw_then ?_
  refine cw_seq ?_
  refine cw_region ?_
  refine rw_p 3 (.int .u64 ((m : Nat) : Int)) (fun _ => by kernel_rfl) (fun _ => by kernel_rfl) ?_
  refine rw_call 4 36 #[.int .u64 ((m : Nat) : Int)] (fun _ => by kernel_rfl) (fun _ => by kernel_rfl) (R := RSl w (be m)) (wbytes hm w) ?_
  rintro _ w4 ⟨⟨a1, n2, c3, rfl, ha5⟩, hb6⟩
  replace hB := hB.go hb6
  refine rw_p 5 (.int .i64 ((n2 : Nat) : Int)) (fun _ => by kernel_rfl) (fun _ => by kernel_rfl) ?_
  refine rw_p 6 (.int .i64 ((max 1 n2 : Nat) : Int)) (fun _ => by kernel_rfl) (fun _ => ol_max _ _ 1 n2 rfl (by kernel_rfl) (by kernel_rfl)) ?_
  refine rw_p 2 (.int .i64 ((max 1 n2 : Nat) : Int)) (fun _ => by kernel_rfl) (fun _ => by kernel_rfl) ?_
  refine rw_nil ?_
  refine nw_then ?_
  refine cw_ret ?_
  refine nw_ret_body (.int .i64 ((max 1 n2 : Nat) : Int)) (fun _ => by kernel_rfl) ?_
  refine ⟨_, rfl, ?_, hB⟩
  have hl := ha5.l
  rw [be_len] at hl
  unfold szo; rw [hl]
theorem wpushof {k : Nat} (hk : 1 ≤ k ∧ k ≤ 8) (w : World) : Calls Tryd.prog 25 #[.int .i64 ((k : Nat) : Int)] w fun e w' => ∃ v, e = .returned v ∧ RVl w (.int .u8 ((31 + k : Nat) : Int)) v w' := by
  have hB : Bl w w := Bl.refl w
  refine cw_enter Tryd.func25 rfl 7 rfl ?_
  show CW _ _ _ _ _ _ _ [(0, .int .i64 ((k : Nat) : Int))] _
  obtain ⟨hk1, hk8⟩ := hk
  refine cw_seq ?_
  refine cw_region ?_
  refine rw_p 2 (.int .u8 0) (fun _ => by kernel_rfl) (fun _ => by kernel_rfl) ?_
  refine rw_nil ?_
  refine nw_then ?_
  refine cw_seq ?_
  refine cw_region ?_
  refine rw_p 3 (.int .i64 ((k : Nat) : Int)) (fun _ => by kernel_rfl) (fun _ => by kernel_rfl) ?_
  refine rw_p 4 (.int .i64 ((32 + k : Nat) : Int)) (fun _ => by kernel_rfl) (fun _ => ol_conv (v := .int .i64 (IntKind.i64.wrap ((32 : Int) + ((k : Nat) : Int)))) (by kernel_rfl) (congrArg (Value.int .i64) (show IntKind.i64.wrap ((32 : Int) + ((k : Nat) : Int)) = ((32 + k : Nat) : Int) from (wrap64 (by omega) (by omega)).trans (by omega)))) ?_
  refine rw_p 5 (.int .i64 (((32 + k) - 1 : Nat) : Int)) (fun _ => by kernel_rfl) (fun _ => ol_conv (v := .int .i64 (IntKind.i64.wrap (((32 + k : Nat) : Int) - (1 : Int)))) (by kernel_rfl) (congrArg (Value.int .i64) (show IntKind.i64.wrap (((32 + k : Nat) : Int) - (1 : Int)) = (((32 + k) - 1 : Nat) : Int) from (wrap64 (by omega) (by omega)).trans (by omega)))) ?_
  refine rw_p 6 (.int .u8 (((32 + k) - 1 : Nat) : Int)) (fun _ => by kernel_rfl) (fun _ => ol_cv 3 5 .i64 .u8 _ (((32 + k) - 1 : Nat) : Int) (((32 + k) - 1 : Nat) : Int) rfl Tryd.underlying3 Tryd.underlying5 (by kernel_rfl) (wrapI (by left; exact ⟨rfl, by omega, by omega⟩))) ?_
  refine rw_p 2 (.int .u8 (((32 + k) - 1 : Nat) : Int)) (fun _ => by kernel_rfl) (fun _ => by kernel_rfl) ?_
  refine rw_nil ?_
  refine nw_then ?_
  refine cw_ret ?_
  refine nw_ret_body (.int .u8 (((32 + k) - 1 : Nat) : Int)) (fun _ => by kernel_rfl) ?_
  refine ⟨_, rfl, ?_, hB⟩
  congr 1; omega
theorem wwith {l : List Int} (hb : Byt l) (hl : l.length ≤ 100) {m : Nat} (hm : m < W64) (w : World) : Calls Tryd.prog 28 #[.string (strOfNums l), .int .u64 ((m : Nat) : Int)] w fun e w' => ∃ v, e = .returned v ∧ RVl w (.string (strOfNums (l ++ 32 :: pr m))) v w' := by
  have hB : Bl w w := Bl.refl w
  refine cw_enter Tryd.func28 rfl 10 rfl ?_
  show CW _ _ _ _ _ _ _ [(0, .string (strOfNums l)), (1, .int .u64 ((m : Nat) : Int))] _
  have hp := pr_len (n := m) hm
  have by1 : Byt (pr m) := (byt_pr m)
  refine cw_seq ?_
  refine cw_region ?_
  refine rw_p 4 (.string (strOfNums ([]))) (fun _ => by kernel_rfl) (fun _ => by kernel_rfl) ?_
  refine rw_nil ?_
  refine nw_then ?_
  refine cw_seq ?_
  refine cw_region ?_
  refine rw_p 5 (.string (strOfNums l)) (fun _ => by kernel_rfl) (fun _ => by kernel_rfl) ?_
  have by2 : Byt (l ++ ([32])) := (byt_app hb (byt_lit (by decide)))
  refine rw_p 6 (.string (strOfNums (l ++ ([32])))) (fun _ => by kernel_rfl) (fun _ => ol_addS _ _ _ l ([32]) rfl (by kernel_rfl) (by kernel_rfl) (by simp; omega)) ?_
  refine rw_p 7 (.int .u64 ((m : Nat) : Int)) (fun _ => by kernel_rfl) (fun _ => by kernel_rfl) ?_
  refine rw_call 8 38 #[.int .u64 ((m : Nat) : Int)] (fun _ => by kernel_rfl) (fun _ => by kernel_rfl) (R := RVl w (.string (strOfNums (pr m)))) (wprint hm w) ?_
  rintro _ w3 ⟨rfl, hb4⟩
  replace hB := hB.go hb4
  have by5 : Byt ((l ++ ([32])) ++ (pr m)) := (byt_app by2 by1)
  refine rw_p 9 (.string (strOfNums ((l ++ ([32])) ++ (pr m)))) (fun _ => by kernel_rfl) (fun _ => ol_addS _ _ _ (l ++ ([32])) (pr m) rfl (by kernel_rfl) (by kernel_rfl) (by simp; omega)) ?_
  refine rw_p 4 (.string (strOfNums ((l ++ ([32])) ++ (pr m)))) (fun _ => by kernel_rfl) (fun _ => by kernel_rfl) ?_
  refine rw_nil ?_
  refine nw_then ?_
  refine cw_ret ?_
  refine nw_ret_body (.string (strOfNums ((l ++ ([32])) ++ (pr m)))) (fun _ => by kernel_rfl) ?_
  refine ⟨_, rfl, ?_, hB⟩
  simp
theorem wsized {k : Nat} (hk : k ≤ 8) (w : World) : Calls Tryd.prog 30 #[.int .i64 ((k : Nat) : Int)] w fun e w' => ∃ v, e = .returned v ∧ RVl w (.string (strOfNums (pushW ++ pr k))) v w' := by
  have hB : Bl w w := Bl.refl w
  refine cw_enter Tryd.func30 rfl 7 rfl ?_
  show CW _ _ _ _ _ _ _ [(0, .int .i64 ((k : Nat) : Int))] _
  have hk6 : k < W64 := by unfold W64; omega
  have hp := pr_len (n := k) hk6
  have by1 : Byt (pr k) := (byt_pr k)
  refine cw_seq ?_
  refine cw_region ?_
  refine rw_p 2 (.string (strOfNums ([]))) (fun _ => by kernel_rfl) (fun _ => by kernel_rfl) ?_
  refine rw_nil ?_
  refine nw_then ?_
  refine cw_seq ?_
  refine cw_region ?_
  refine rw_p 3 (.int .i64 ((k : Nat) : Int)) (fun _ => by kernel_rfl) (fun _ => by kernel_rfl) ?_
  refine rw_p 4 (.int .u64 ((k : Nat) : Int)) (fun _ => by kernel_rfl) (fun _ => ol_cv 3 29 .i64 .u64 _ ((k : Nat) : Int) ((k : Nat) : Int) rfl Tryd.underlying3 Tryd.underlying29 (by kernel_rfl) (wrapI (by right; left; exact ⟨rfl, by omega, by omega⟩))) ?_
  refine rw_call 5 38 #[.int .u64 ((k : Nat) : Int)] (fun _ => by kernel_rfl) (fun _ => by kernel_rfl) (R := RVl w (.string (strOfNums (pr k)))) (wprint hk6 w) ?_
  rintro _ w2 ⟨rfl, hb3⟩
  replace hB := hB.go hb3
  have by4 : Byt (pushW ++ (pr k)) := (byt_app (byt_lit (by decide)) by1)
  refine rw_p 6 (.string (strOfNums (pushW ++ (pr k)))) (fun _ => by kernel_rfl) (fun _ => ol_addS _ _ _ pushW (pr k) rfl (by kernel_rfl) (by kernel_rfl) (by have : pushW.length = 4 := rfl; omega)) ?_
  refine rw_p 2 (.string (strOfNums (pushW ++ (pr k)))) (fun _ => by kernel_rfl) (fun _ => by kernel_rfl) ?_
  refine rw_nil ?_
  refine nw_then ?_
  refine cw_ret ?_
  refine nw_ret_body (.string (strOfNums (pushW ++ (pr k)))) (fun _ => by kernel_rfl) ?_
  refine ⟨_, rfl, ?_, hB⟩
  rfl
theorem wvalue {a : Option Addr} {n c : Nat} {b : List Int} (w : World) (h : Ag w a n c b) (hn : n ≤ 8) : Calls Tryd.prog 29 #[.slice a n c] w fun e w' => ∃ v, e = .returned v ∧ RVl w (.int .u64 ((vl b : Nat) : Int)) v w' := by
  have hB : Bl w w := Bl.refl w
  refine cw_enter Tryd.func29 rfl 22 rfl ?_
  show CW _ _ _ _ _ _ _ [(0, .slice a n c)] _
  refine cw_seq ?_
  refine cw_region ?_
  refine rw_p 2 (.int .u64 0) (fun _ => by kernel_rfl) (fun _ => by kernel_rfl) ?_
  refine rw_nil ?_
  refine nw_then ?_
  refine cw_seq ?_
  refine cw_block ?_
  refine cw_loop (X := Option Addr × Nat × Nat × List Int) (fun q => [(0, .slice q.1 q.2.1 q.2.2.1)]) (fun q v => Ag v q.1 q.2.1 q.2.2.1 q.2.2.2 ∧ stz q.2.2.2 = stz b ∧ q.2.1 ≤ 8 ∧ Bl w v) (fun q => q.2.1) (a, n, c, b) (by exact ⟨fun _ => by kernel_rfl, trivial⟩) ⟨h, rfl, hn, hB⟩ ?_
  rintro ⟨a1, n1, c1, b1⟩ wl ⟨h1, hst, hn1, hB⟩
  simp only at h1 hst hn1
  show CW _ _ _ _ _ _ _ [(0, .slice a1 n1 c1)] _
  by_cases h0 : n1 = 0
  · skip
    subst h0
    have hb0 : b1 = [] := List.eq_nil_of_length_eq_zero h1.l
    subst hb0
    refine cw_seq ?_
    refine cw_seq ?_
    refine cw_region ?_
    refine rw_p 5 (.slice a1 0 c1) (fun _ => by kernel_rfl) (fun _ => by kernel_rfl) ?_
    refine rw_p 6 (.int .i64 ((0 : Nat) : Int)) (fun _ => by kernel_rfl) (fun _ => by kernel_rfl) ?_
    refine rw_p 7 (.bool false) (fun _ => by kernel_rfl) (fun _ => ol_conv (v := .bool (decide (((0 : Nat) : Int) > (0 : Int)))) (by kernel_rfl) (congrArg Value.bool (rfl))) ?_
    refine rw_p 8 (.bool false) (fun _ => by kernel_rfl) (fun _ => by kernel_rfl) ?_
    refine rw_off 9 (fun _ => by kernel_rfl) ?_
    refine rw_off 10 (fun _ => by kernel_rfl) ?_
    refine rw_off 11 (fun _ => by kernel_rfl) ?_
    refine rw_off 12 (fun _ => by kernel_rfl) ?_
    refine rw_p 13 (.bool false) (fun _ => by kernel_rfl) (fun _ => by kernel_rfl) ?_
    refine rw_nil ?_
    refine nw_then ?_
    refine cw_cond_f (fun _ => by kernel_rfl) ?_
    refine cw_exit ?_
    refine nw_exit_then ?_
    refine nw_exit_then ?_
    refine nw_exit_here ?_
    refine nw_then ?_
    refine cw_seq ?_
    refine cw_region ?_
    refine rw_p 17 (.slice a1 0 c1) (fun _ => by kernel_rfl) (fun _ => by kernel_rfl) ?_
    have hrd : rdP ([]) = (vl b, true) := by
      have hz : stz ([]) = ([]) := rfl
      have hh := rd_stz (l := []) (by have := h1.l; omega)
      rw [hz] at hh
      rw [hh, ← vl_stz ([]), hst, vl_stz]
    refine rw_call 18 39 #[.slice a1 0 c1] (fun _ => by kernel_rfl) (fun _ => by kernel_rfl) (R := RVl wl (.tuple #[.int .u64 ((vl b : Nat) : Int), .bool true])) (by have := wread h1 (by omega); rw [hrd] at this; exact this) ?_
    rintro _ w1 ⟨rfl, hb2⟩
    replace hB := hB.go hb2
    replace h1 := h1.go hb2
    refine rw_p 16 (.tuple #[.int .u64 ((vl b : Nat) : Int), .bool true]) (fun _ => by kernel_rfl) (fun _ => by kernel_rfl) ?_
    refine rw_p 19 (.int .u64 ((vl b : Nat) : Int)) (fun _ => by kernel_rfl) (fun _ => by kernel_rfl) ?_
    refine rw_p 20 (.bool true) (fun _ => by kernel_rfl) (fun _ => by kernel_rfl) ?_
    refine rw_p 3 (.int .u64 ((vl b : Nat) : Int)) (fun _ => by kernel_rfl) (fun _ => by kernel_rfl) ?_
    refine rw_p 4 (.bool true) (fun _ => by kernel_rfl) (fun _ => by kernel_rfl) ?_
    refine rw_nil ?_
    refine nw_then ?_
    refine cw_seq ?_
    refine cw_region ?_
    refine rw_p 21 (.int .u64 ((vl b : Nat) : Int)) (fun _ => by kernel_rfl) (fun _ => by kernel_rfl) ?_
    refine rw_p 2 (.int .u64 ((vl b : Nat) : Int)) (fun _ => by kernel_rfl) (fun _ => by kernel_rfl) ?_
    refine rw_nil ?_
    refine nw_then ?_
    refine cw_ret ?_
    refine nw_ret_body (.int .u64 ((vl b : Nat) : Int)) (fun _ => by kernel_rfl) ?_
    refine ⟨_, rfl, ?_, hB⟩
    rfl
  · skip
    obtain ⟨x, r, rfl, hrl⟩ := cons_of h1 (by omega)
    obtain ⟨gb3, of4, rfl, hc5⟩ := h1.at0 (k := 0) (by omega)
    replace hc5 : _ = some (Value.int .u8 x) := hc5
    refine cw_seq ?_
    refine cw_seq ?_
    refine cw_region ?_
    refine rw_p 5 (.slice (some ⟨gb3, of4, none⟩) n1 c1) (fun _ => by kernel_rfl) (fun _ => by kernel_rfl) ?_
    refine rw_p 6 (.int .i64 ((n1 : Nat) : Int)) (fun _ => by kernel_rfl) (fun _ => by kernel_rfl) ?_
    refine rw_p 7 (.bool true) (fun _ => by kernel_rfl) (fun _ => ol_conv (v := .bool (decide (((n1 : Nat) : Int) > (0 : Int)))) (by kernel_rfl) (congrArg Value.bool (decide_eq_true (by omega)))) ?_
    refine rw_p 8 (.bool true) (fun _ => by kernel_rfl) (fun _ => by kernel_rfl) ?_
    refine rw_p 9 (.slice (some ⟨gb3, of4, none⟩) n1 c1) (fun _ => by kernel_rfl) (fun _ => by kernel_rfl) ?_
    refine rw_p 10 (.pointer (some ⟨gb3, of4 + 0 * 1, none⟩)) (fun _ => by kernel_rfl) (fun _ => ol_index 22 _ _ gb3 of4 0 n1 c1 1 5 rfl (by kernel_rfl) (by kernel_rfl) (by omega) Tryd.underlying22 (by kernel_rfl)) ?_
    refine rw_p 11 (.int .u8 x) (fun _ => by kernel_rfl) (fun _ => ol_cell 5 _ ⟨gb3, of4 + 0 * 1, none⟩ _ _ rfl (by kernel_rfl) hc5 Tryd.underlying5 rfl) ?_
    refine rw_p 12 (.bool ((x : Int) == (0 : Int))) (fun _ => by kernel_rfl) (fun _ => by kernel_rfl) ?_
    refine rw_p 13 (.bool ((x : Int) == (0 : Int))) (fun _ => by kernel_rfl) (fun _ => by kernel_rfl) ?_
    refine rw_nil ?_
    refine nw_then ?_
    cases hq6 : ((x : Int) == (0 : Int)) with
    | true =>
      have dhq6 := eq_of_beq hq6
      refine cw_cond_t (fun _ => by kernel_rfl) ?_
      refine cw_skip ?_
      refine nw_then ?_
      refine cw_block ?_
      refine cw_region ?_
      refine rw_p 14 (.slice (some ⟨gb3, of4, none⟩) n1 c1) (fun _ => by kernel_rfl) (fun _ => by kernel_rfl) ?_
      have ha7 := h1.from (k := 1) (by omega)
      refine rw_p 15 (.slice (cutA (some ⟨gb3, of4, none⟩) 1 c1) (n1 - 1) (c1 - 1)) (fun _ => by kernel_rfl) (fun _ => ol_from _ _ (some ⟨gb3, of4, none⟩) n1 c1 1 rfl (by kernel_rfl) (by kernel_rfl) (by omega) h1.cap) ?_
      refine rw_p 0 (.slice (cutA (some ⟨gb3, of4, none⟩) 1 c1) (n1 - 1) (c1 - 1)) (fun _ => by kernel_rfl) (fun _ => by kernel_rfl) ?_
      refine rw_nil ?_
      refine nw_block ?_
      refine nw_round (X := Option Addr × Nat × Nat × List Int) (E := fun q => [(0, .slice q.1 q.2.1 q.2.2.1)]) (R := fun q v => Ag v q.1 q.2.1 q.2.2.1 q.2.2.2 ∧ stz q.2.2.2 = stz b ∧ q.2.1 ≤ 8 ∧ Bl w v) (μ := fun q => q.2.1) (x := (some ⟨gb3, of4, none⟩, n1, c1, x :: r)) ((cutA (some ⟨gb3, of4, none⟩) 1 c1), n1 - 1, c1 - 1, r) (by exact ⟨fun _ => by kernel_rfl, trivial⟩) ⟨ha7, ?_, ?_, hB⟩ ?_
      · rw [← hst]; show _ = stz (x :: r); unfold stz; rw [if_pos (by simpa using hq6)]; cases r <;> rfl
      · show n1 - 1 ≤ 8; omega
      · show n1 - 1 < n1; omega
    | false =>
      have dhq6 := ne_of_beq_false hq6
      refine cw_cond_f (fun _ => by kernel_rfl) ?_
      refine cw_exit ?_
      refine nw_exit_then ?_
      refine nw_exit_then ?_
      refine nw_exit_here ?_
      refine nw_then ?_
      refine cw_seq ?_
      refine cw_region ?_
      refine rw_p 17 (.slice (some ⟨gb3, of4, none⟩) n1 c1) (fun _ => by kernel_rfl) (fun _ => by kernel_rfl) ?_
      have hrd : rdP (x :: r) = (vl b, true) := by
        have hz : stz (x :: r) = (x :: r) := (by unfold stz; rw [if_neg (by simpa using hq6)])
        have hh := rd_stz (l := (x :: r)) (by have := h1.l; omega)
        rw [hz] at hh
        rw [hh, ← vl_stz (x :: r), hst, vl_stz]
      refine rw_call 18 39 #[.slice (some ⟨gb3, of4, none⟩) n1 c1] (fun _ => by kernel_rfl) (fun _ => by kernel_rfl) (R := RVl wl (.tuple #[.int .u64 ((vl b : Nat) : Int), .bool true])) (by have := wread h1 (by omega); rw [hrd] at this; exact this) ?_
      rintro _ w8 ⟨rfl, hb9⟩
      replace hB := hB.go hb9
      replace h1 := h1.go hb9
      replace hc5 := cell_go hc5 hb9
      refine rw_p 16 (.tuple #[.int .u64 ((vl b : Nat) : Int), .bool true]) (fun _ => by kernel_rfl) (fun _ => by kernel_rfl) ?_
      refine rw_p 19 (.int .u64 ((vl b : Nat) : Int)) (fun _ => by kernel_rfl) (fun _ => by kernel_rfl) ?_
      refine rw_p 20 (.bool true) (fun _ => by kernel_rfl) (fun _ => by kernel_rfl) ?_
      refine rw_p 3 (.int .u64 ((vl b : Nat) : Int)) (fun _ => by kernel_rfl) (fun _ => by kernel_rfl) ?_
      refine rw_p 4 (.bool true) (fun _ => by kernel_rfl) (fun _ => by kernel_rfl) ?_
      refine rw_nil ?_
      refine nw_then ?_
      refine cw_seq ?_
      refine cw_region ?_
      refine rw_p 21 (.int .u64 ((vl b : Nat) : Int)) (fun _ => by kernel_rfl) (fun _ => by kernel_rfl) ?_
      refine rw_p 2 (.int .u64 ((vl b : Nat) : Int)) (fun _ => by kernel_rfl) (fun _ => by kernel_rfl) ?_
      refine rw_nil ?_
      refine nw_then ?_
      refine cw_ret ?_
      refine nw_ret_body (.int .u64 ((vl b : Nat) : Int)) (fun _ => by kernel_rfl) ?_
      refine ⟨_, rfl, ?_, hB⟩
      rfl
theorem wpiece_no {a : Option Addr} {n c : Nat} {x : Int} {r : List Int} (hof : ofP x = none) (w : World) (h : Ag w a n c (x :: r)) (ht : Tb w) (hrl : r.length + 1 = n) : Calls Tryd.prog 15 #[.slice a n c] w fun e w' => ∃ v, e = .returned v ∧ RVl w (.int .i64 ((szP (x :: r) : Nat) : Int)) v w' := by
  have ht0 := ht
  have hx := ag_hd h
  have hB : Bl w w := Bl.refl w
  refine cw_enter Tryd.func15 rfl 24 rfl ?_
  show CW _ _ _ _ _ _ _ [(0, .slice a n c)] _
  refine cw_seq ?_
  refine cw_region ?_
  refine rw_p 2 (.int .i64 0) (fun _ => by kernel_rfl) (fun _ => by kernel_rfl) ?_
  refine rw_nil ?_
  refine nw_then ?_
  refine cw_seq ?_
  obtain ⟨gb1, of2, rfl, hc3⟩ := h.at0 (k := 0) (by omega)
  replace hc3 : _ = some (Value.int .u8 x) := hc3
  refine cw_region ?_
  refine rw_p 6 (.slice (some ⟨gb1, of2, none⟩) n c) (fun _ => by kernel_rfl) (fun _ => by kernel_rfl) ?_
  refine rw_p 7 (.pointer (some ⟨gb1, of2 + 0 * 1, none⟩)) (fun _ => by kernel_rfl) (fun _ => ol_index 22 _ _ gb1 of2 0 n c 1 5 rfl (by kernel_rfl) (by kernel_rfl) (by omega) Tryd.underlying22 (by kernel_rfl)) ?_
  refine rw_p 8 (.int .u8 x) (fun _ => by kernel_rfl) (fun _ => ol_cell 5 _ ⟨gb1, of2 + 0 * 1, none⟩ _ _ rfl (by kernel_rfl) hc3 Tryd.underlying5 rfl) ?_
  refine rw_call 9 14 #[.int .u8 x] (fun _ => by kernel_rfl) (fun _ => by kernel_rfl) (R := RVl w (.tuple #[.agg (NfV nf0), .bool false])) (wof_no hof hx w ht) ?_
  rintro _ w4 ⟨rfl, hb5⟩
  replace hB := hB.go hb5
  replace ht := ht.go hb5
  replace h := h.go hb5
  replace hc3 := cell_go hc3 hb5
  refine rw_p 5 (.tuple #[.agg (NfV nf0), .bool false]) (fun _ => by kernel_rfl) (fun _ => by kernel_rfl) ?_
  refine rw_p 10 (.agg (NfV nf0)) (fun _ => by kernel_rfl) (fun _ => by kernel_rfl) ?_
  refine rw_p 11 (.bool false) (fun _ => by kernel_rfl) (fun _ => by kernel_rfl) ?_
  refine rw_new 3 (#[.string (strOfNums []), .int .i64 0, .int .i64 0, .int .i64 0, .int .u64 0]) 43 (fun _ => by kernel_rfl) (fun _ => by kernel_rfl) ?_
  intro w6 g7 hn8
  have hzg7 : w.heap.size ≤ g7 := by have := hB.size; have := hn8.hg; omega
  have hr9 : Rw g7 w6 (#[.string (strOfNums []), .int .i64 0, .int .i64 0, .int .i64 0, .int .u64 0]) 43 := hn8.row
  refine rw_put g7 (NfV nf0) (fun _ => by kernel_rfl) (fun _ => ol_store 43 _ _ _ _ _ 43 rfl (by kernel_rfl) (by kernel_rfl) hr9 (by kernel_rfl) rfl (by kernel_rfl)) ?_
  intro w10 hp11
  have hbg7 : Below w4.heap.size w4 w10 := hp11.below hn8.below (Nat.le_of_eq hn8.hg.symm) (by have := hn8.size; have := hn8.hg; omega)
  replace hB := hB.go hbg7
  replace ht := ht.go hbg7
  replace h := h.go hbg7
  replace hc3 := cell_go hc3 hbg7
  have hr12 : Rw g7 w10 (NfV nf0) 43 := hr9.put hp11
  refine rw_p 4 (.bool false) (fun _ => by kernel_rfl) (fun _ => by kernel_rfl) ?_
  refine rw_nil ?_
  refine nw_then ?_
  refine cw_seq ?_
  refine cw_seq ?_
  refine cw_region ?_
  refine rw_p 12 (.bool false) (fun _ => by kernel_rfl) (fun _ => by kernel_rfl) ?_
  refine rw_p 13 (.bool true) (fun _ => by kernel_rfl) (fun _ => by kernel_rfl) ?_
  refine rw_p 14 (.bool true) (fun _ => by kernel_rfl) (fun _ => by kernel_rfl) ?_
  refine rw_off 15 (fun _ => by kernel_rfl) ?_
  refine rw_off 16 (fun _ => by kernel_rfl) ?_
  refine rw_off 17 (fun _ => by kernel_rfl) ?_
  refine rw_off 18 (fun _ => by kernel_rfl) ?_
  refine rw_off 19 (fun _ => by kernel_rfl) ?_
  refine rw_p 20 (.bool true) (fun _ => by kernel_rfl) (fun _ => by kernel_rfl) ?_
  refine rw_nil ?_
  refine nw_then ?_
  refine cw_cond_t (fun _ => by kernel_rfl) ?_
  refine cw_seq ?_
  refine cw_region ?_
  refine rw_p 2 (.int .i64 1) (fun _ => by kernel_rfl) (fun _ => by kernel_rfl) ?_
  refine rw_nil ?_
  refine nw_then ?_
  refine cw_ret ?_
  refine nw_ret_then ?_
  refine nw_ret_body (.int .i64 1) (fun _ => by kernel_rfl) ?_
  refine ⟨_, rfl, ?_, hB⟩
  rw [szP_no hof]; rfl
theorem wpiece_some {a : Option Addr} {n c : Nat} {x : Int} {r : List Int} {o : Nf} (hof : ofP x = some o) (w : World) (h : Ag w a n c (x :: r)) (ht : Tb w) (hrl : r.length + 1 = n) : Calls Tryd.prog 15 #[.slice a n c] w fun e w' => ∃ v, e = .returned v ∧ RVl w (.int .i64 ((szP (x :: r) : Nat) : Int)) v w' := by
  have ht0 := ht
  have hx := ag_hd h
  obtain ⟨hbh, -⟩ := nf_small hof
  have hB : Bl w w := Bl.refl w
  refine cw_enter Tryd.func15 rfl 24 rfl ?_
  show CW _ _ _ _ _ _ _ [(0, .slice a n c)] _
  refine cw_seq ?_
  refine cw_region ?_
  refine rw_p 2 (.int .i64 0) (fun _ => by kernel_rfl) (fun _ => by kernel_rfl) ?_
  refine rw_nil ?_
  refine nw_then ?_
  refine cw_seq ?_
  obtain ⟨gb1, of2, rfl, hc3⟩ := h.at0 (k := 0) (by omega)
  replace hc3 : _ = some (Value.int .u8 x) := hc3
  refine cw_region ?_
  refine rw_p 6 (.slice (some ⟨gb1, of2, none⟩) n c) (fun _ => by kernel_rfl) (fun _ => by kernel_rfl) ?_
  refine rw_p 7 (.pointer (some ⟨gb1, of2 + 0 * 1, none⟩)) (fun _ => by kernel_rfl) (fun _ => ol_index 22 _ _ gb1 of2 0 n c 1 5 rfl (by kernel_rfl) (by kernel_rfl) (by omega) Tryd.underlying22 (by kernel_rfl)) ?_
  refine rw_p 8 (.int .u8 x) (fun _ => by kernel_rfl) (fun _ => ol_cell 5 _ ⟨gb1, of2 + 0 * 1, none⟩ _ _ rfl (by kernel_rfl) hc3 Tryd.underlying5 rfl) ?_
  refine rw_call 9 14 #[.int .u8 x] (fun _ => by kernel_rfl) (fun _ => by kernel_rfl) (R := RVl w (.tuple #[.agg (NfV o), .bool true])) (wof_yes hof hx w ht) ?_
  rintro _ w4 ⟨rfl, hb5⟩
  replace hB := hB.go hb5
  replace ht := ht.go hb5
  replace h := h.go hb5
  replace hc3 := cell_go hc3 hb5
  refine rw_p 5 (.tuple #[.agg (NfV o), .bool true]) (fun _ => by kernel_rfl) (fun _ => by kernel_rfl) ?_
  refine rw_p 10 (.agg (NfV o)) (fun _ => by kernel_rfl) (fun _ => by kernel_rfl) ?_
  refine rw_p 11 (.bool true) (fun _ => by kernel_rfl) (fun _ => by kernel_rfl) ?_
  refine rw_new 3 (#[.string (strOfNums []), .int .i64 0, .int .i64 0, .int .i64 0, .int .u64 0]) 43 (fun _ => by kernel_rfl) (fun _ => by kernel_rfl) ?_
  intro w6 g7 hn8
  have hzg7 : w.heap.size ≤ g7 := by have := hB.size; have := hn8.hg; omega
  have hr9 : Rw g7 w6 (#[.string (strOfNums []), .int .i64 0, .int .i64 0, .int .i64 0, .int .u64 0]) 43 := hn8.row
  refine rw_put g7 (NfV o) (fun _ => by kernel_rfl) (fun _ => ol_store 43 _ _ _ _ _ 43 rfl (by kernel_rfl) (by kernel_rfl) hr9 (by kernel_rfl) rfl (by kernel_rfl)) ?_
  intro w10 hp11
  have hbg7 : Below w4.heap.size w4 w10 := hp11.below hn8.below (Nat.le_of_eq hn8.hg.symm) (by have := hn8.size; have := hn8.hg; omega)
  replace hB := hB.go hbg7
  replace ht := ht.go hbg7
  replace h := h.go hbg7
  replace hc3 := cell_go hc3 hbg7
  have hr12 : Rw g7 w10 (NfV o) 43 := hr9.put hp11
  refine rw_p 4 (.bool true) (fun _ => by kernel_rfl) (fun _ => by kernel_rfl) ?_
  refine rw_nil ?_
  refine nw_then ?_
  refine cw_seq ?_
  refine cw_seq ?_
  refine cw_region ?_
  refine rw_p 12 (.bool true) (fun _ => by kernel_rfl) (fun _ => by kernel_rfl) ?_
  refine rw_p 13 (.bool false) (fun _ => by kernel_rfl) (fun _ => by kernel_rfl) ?_
  refine rw_p 14 (.bool false) (fun _ => by kernel_rfl) (fun _ => by kernel_rfl) ?_
  refine rw_p 15 (.slice (some ⟨gb1, of2, none⟩) n c) (fun _ => by kernel_rfl) (fun _ => by kernel_rfl) ?_
  refine rw_p 16 (.int .i64 ((n : Nat) : Int)) (fun _ => by kernel_rfl) (fun _ => by kernel_rfl) ?_
  refine rw_p 17 (.pointer (some ⟨g7, 1, none⟩)) (fun _ => by kernel_rfl) (fun _ => by kernel_rfl) ?_
  refine rw_p 18 (.int .i64 ((o.bh : Nat) : Int)) (fun _ => by kernel_rfl) (fun _ => ol_cell 3 _ ⟨g7, 1, none⟩ _ _ rfl (by kernel_rfl) (by rw [cell_of_row _ _ _ _ _ _ hr12]; rfl) Tryd.underlying3 rfl) ?_
  refine rw_p 19 (.bool (decide (((n : Nat) : Int) ≤ ((o.bh : Nat) : Int)))) (fun _ => by kernel_rfl) (fun _ => by kernel_rfl) ?_
  refine rw_p 20 (.bool (decide (((n : Nat) : Int) ≤ ((o.bh : Nat) : Int)))) (fun _ => by kernel_rfl) (fun _ => by kernel_rfl) ?_
  refine rw_nil ?_
  refine nw_then ?_
  cases hq13 : (decide (((n : Nat) : Int) ≤ ((o.bh : Nat) : Int))) with
  | true =>
    have dhq13 := of_decide_eq_true hq13
    refine cw_cond_t (fun _ => by kernel_rfl) ?_
    refine cw_seq ?_
    refine cw_region ?_
    refine rw_p 2 (.int .i64 1) (fun _ => by kernel_rfl) (fun _ => by kernel_rfl) ?_
    refine rw_nil ?_
    refine nw_then ?_
    refine cw_ret ?_
    refine nw_ret_then ?_
    refine nw_ret_body (.int .i64 1) (fun _ => by kernel_rfl) ?_
    refine ⟨_, rfl, ?_, hB⟩
    rw [szP_lt hof (by omega)]; rfl
  | false =>
    have dhq13 := of_decide_eq_false hq13
    refine cw_cond_f (fun _ => by kernel_rfl) ?_
    refine cw_skip ?_
    refine nw_then ?_
    refine cw_seq ?_
    refine cw_region ?_
    refine rw_p 21 (.pointer (some ⟨g7, 1, none⟩)) (fun _ => by kernel_rfl) (fun _ => by kernel_rfl) ?_
    refine rw_p 22 (.int .i64 ((o.bh : Nat) : Int)) (fun _ => by kernel_rfl) (fun _ => ol_cell 3 _ ⟨g7, 1, none⟩ _ _ rfl (by kernel_rfl) (by rw [cell_of_row _ _ _ _ _ _ hr12]; rfl) Tryd.underlying3 rfl) ?_
    refine rw_p 23 (.int .i64 ((1 + o.bh : Nat) : Int)) (fun _ => by kernel_rfl) (fun _ => ol_conv (v := .int .i64 (IntKind.i64.wrap ((1 : Int) + ((o.bh : Nat) : Int)))) (by kernel_rfl) (congrArg (Value.int .i64) (show IntKind.i64.wrap ((1 : Int) + ((o.bh : Nat) : Int)) = ((1 + o.bh : Nat) : Int) from (wrap64 (by omega) (by omega)).trans (by omega)))) ?_
    refine rw_p 2 (.int .i64 ((1 + o.bh : Nat) : Int)) (fun _ => by kernel_rfl) (fun _ => by kernel_rfl) ?_
    refine rw_nil ?_
    refine nw_then ?_
    refine cw_ret ?_
    refine nw_ret_body (.int .i64 ((1 + o.bh : Nat) : Int)) (fun _ => by kernel_rfl) ?_
    refine ⟨_, rfl, ?_, hB⟩
    rw [szP_ge hof (by omega)]
theorem wpiece {a : Option Addr} {n c : Nat} {b : List Int} (w : World) (h : Ag w a n c b) (ht : Tb w) (hne : 0 < n) : Calls Tryd.prog 15 #[.slice a n c] w fun e w' => ∃ v, e = .returned v ∧ RVl w (.int .i64 ((szP b : Nat) : Int)) v w' := by
  obtain ⟨x, r, rfl, hrl⟩ := cons_of h hne
  cases hof : ofP x with
  | none => exact wpiece_no hof w h ht hrl
  | some o => exact wpiece_some hof w h ht hrl
set_option maxHeartbeats 1000000 in
theorem wwritten_no {a : Option Addr} {n c : Nat} {x : Int} {r : List Int} (hof : ofP x = none) (w : World) (h : Ag w a n c (x :: r)) (ht : Tb w) (hrl : r.length + 1 = n) (hn : n ≤ 9) : Calls Tryd.prog 16 #[.slice a n c] w fun e w' => ∃ v, e = .returned v ∧ RVl w (.string (strOfNums (wr (x :: r)))) v w' := by
  have ht0 := ht
  have hx := ag_hd h
  obtain ⟨hx0, hx1⟩ := hx
  obtain ⟨z, rfl⟩ := Int.eq_ofNat_of_zero_le hx0
  have hz : z < W64 := by unfold W64; omega
  have hbr : Byt r := fun y hy => h.b y (List.mem_cons_of_mem _ hy)
  have hv := vl_lt8 hbr (by omega)
  have hso := szo_bd hv
  have hB : Bl w w := Bl.refl w
  refine cw_enter Tryd.func16 rfl 49 rfl ?_
  show CW _ _ _ _ _ _ _ [(0, .slice a n c)] _
  refine cw_seq ?_
  refine cw_region ?_
  refine rw_p 2 (.string (strOfNums ([]))) (fun _ => by kernel_rfl) (fun _ => by kernel_rfl) ?_
  refine rw_nil ?_
  refine nw_then ?_
  refine cw_seq ?_
  obtain ⟨gb1, of2, rfl, hc3⟩ := h.at0 (k := 0) (by omega)
  replace hc3 : _ = some (Value.int .u8 ((z : Nat) : Int)) := hc3
  refine cw_region ?_
  refine rw_p 7 (.slice (some ⟨gb1, of2, none⟩) n c) (fun _ => by kernel_rfl) (fun _ => by kernel_rfl) ?_
  refine rw_p 8 (.pointer (some ⟨gb1, of2 + 0 * 1, none⟩)) (fun _ => by kernel_rfl) (fun _ => ol_index 22 _ _ gb1 of2 0 n c 1 5 rfl (by kernel_rfl) (by kernel_rfl) (by omega) Tryd.underlying22 (by kernel_rfl)) ?_
  refine rw_p 9 (.int .u8 ((z : Nat) : Int)) (fun _ => by kernel_rfl) (fun _ => ol_cell 5 _ ⟨gb1, of2 + 0 * 1, none⟩ _ _ rfl (by kernel_rfl) hc3 Tryd.underlying5 rfl) ?_
  refine rw_call 10 14 #[.int .u8 ((z : Nat) : Int)] (fun _ => by kernel_rfl) (fun _ => by kernel_rfl) (R := RVl w (.tuple #[.agg (NfV nf0), .bool false])) (wof_no hof ⟨hx0, hx1⟩ w ht) ?_
  rintro _ w4 ⟨rfl, hb5⟩
  replace hB := hB.go hb5
  replace ht := ht.go hb5
  replace h := h.go hb5
  replace hc3 := cell_go hc3 hb5
  refine rw_p 6 (.tuple #[.agg (NfV nf0), .bool false]) (fun _ => by kernel_rfl) (fun _ => by kernel_rfl) ?_
  refine rw_p 11 (.agg (NfV nf0)) (fun _ => by kernel_rfl) (fun _ => by kernel_rfl) ?_
  refine rw_p 12 (.bool false) (fun _ => by kernel_rfl) (fun _ => by kernel_rfl) ?_
  refine rw_new 3 (#[.string (strOfNums []), .int .i64 0, .int .i64 0, .int .i64 0, .int .u64 0]) 43 (fun _ => by kernel_rfl) (fun _ => by kernel_rfl) ?_
  intro w6 g7 hn8
  have hzg7 : w.heap.size ≤ g7 := by have := hB.size; have := hn8.hg; omega
  have hr9 : Rw g7 w6 (#[.string (strOfNums []), .int .i64 0, .int .i64 0, .int .i64 0, .int .u64 0]) 43 := hn8.row
  refine rw_put g7 (NfV nf0) (fun _ => by kernel_rfl) (fun _ => ol_store 43 _ _ _ _ _ 43 rfl (by kernel_rfl) (by kernel_rfl) hr9 (by kernel_rfl) rfl (by kernel_rfl)) ?_
  intro w10 hp11
  have hbg7 : Below w4.heap.size w4 w10 := hp11.below hn8.below (Nat.le_of_eq hn8.hg.symm) (by have := hn8.size; have := hn8.hg; omega)
  replace hB := hB.go hbg7
  replace ht := ht.go hbg7
  replace h := h.go hbg7
  replace hc3 := cell_go hc3 hbg7
  have hr12 : Rw g7 w10 (NfV nf0) 43 := hr9.put hp11
  refine rw_p 4 (.bool false) (fun _ => by kernel_rfl) (fun _ => by kernel_rfl) ?_
  refine rw_nil ?_
  refine nw_then ?_
  refine cw_seq ?_
  refine cw_seq ?_
  refine cw_region ?_
  refine rw_p 13 (.bool false) (fun _ => by kernel_rfl) (fun _ => by kernel_rfl) ?_
  refine rw_p 14 (.bool true) (fun _ => by kernel_rfl) (fun _ => by kernel_rfl) ?_
  refine rw_p 15 (.bool true) (fun _ => by kernel_rfl) (fun _ => by kernel_rfl) ?_
  refine rw_off 16 (fun _ => by kernel_rfl) ?_
  refine rw_off 17 (fun _ => by kernel_rfl) ?_
  refine rw_off 18 (fun _ => by kernel_rfl) ?_
  refine rw_off 19 (fun _ => by kernel_rfl) ?_
  refine rw_off 20 (fun _ => by kernel_rfl) ?_
  refine rw_p 21 (.bool true) (fun _ => by kernel_rfl) (fun _ => by kernel_rfl) ?_
  refine rw_nil ?_
  refine nw_then ?_
  refine cw_cond_t (fun _ => by kernel_rfl) ?_
  refine cw_seq ?_
  refine cw_region ?_
  refine rw_p 22 (.slice (some ⟨gb1, of2, none⟩) n c) (fun _ => by kernel_rfl) (fun _ => by kernel_rfl) ?_
  refine rw_p 23 (.pointer (some ⟨gb1, of2 + 0 * 1, none⟩)) (fun _ => by kernel_rfl) (fun _ => ol_index 22 _ _ gb1 of2 0 n c 1 5 rfl (by kernel_rfl) (by kernel_rfl) (by omega) Tryd.underlying22 (by kernel_rfl)) ?_
  refine rw_p 24 (.int .u8 ((z : Nat) : Int)) (fun _ => by kernel_rfl) (fun _ => ol_cell 5 _ ⟨gb1, of2 + 0 * 1, none⟩ _ _ rfl (by kernel_rfl) hc3 Tryd.underlying5 rfl) ?_
  refine rw_p 25 (.int .u64 ((z : Nat) : Int)) (fun _ => by kernel_rfl) (fun _ => ol_cv 5 29 .u8 .u64 _ ((z : Nat) : Int) ((z : Nat) : Int) rfl Tryd.underlying5 Tryd.underlying29 (by kernel_rfl) (wrapI (by right; left; exact ⟨rfl, by omega, by omega⟩))) ?_
  refine rw_call 26 28 #[.string (strOfNums byteW), .int .u64 ((z : Nat) : Int)] (fun _ => by kernel_rfl) (fun _ => by kernel_rfl) (R := RVl w10 (.string (strOfNums (byteW ++ 32 :: pr z)))) (wwith (byt_lit (by decide)) (by decide) hz w10) ?_
  rintro _ w13 ⟨rfl, hb14⟩
  replace hB := hB.go hb14
  replace ht := ht.go hb14
  replace h := h.go hb14
  replace hc3 := cell_go hc3 hb14
  replace hr12 := hr12.go hb14
  refine rw_p 2 (.string (strOfNums (byteW ++ 32 :: pr z))) (fun _ => by kernel_rfl) (fun _ => by kernel_rfl) ?_
  refine rw_nil ?_
  refine nw_then ?_
  refine cw_ret ?_
  refine nw_ret_then ?_
  refine nw_ret_body (.string (strOfNums (byteW ++ 32 :: pr z))) (fun _ => by kernel_rfl) ?_
  refine ⟨_, rfl, ?_, hB⟩
  rw [wr_no hof]; rfl
set_option maxHeartbeats 1000000 in
theorem wwritten_some {a : Option Addr} {n c : Nat} {x : Int} {r : List Int} {o : Nf} (hof : ofP x = some o) (w : World) (h : Ag w a n c (x :: r)) (ht : Tb w) (hrl : r.length + 1 = n) (hn : n ≤ 9) : Calls Tryd.prog 16 #[.slice a n c] w fun e w' => ∃ v, e = .returned v ∧ RVl w (.string (strOfNums (wr (x :: r)))) v w' := by
  have ht0 := ht
  have hx := ag_hd h
  obtain ⟨hx0, hx1⟩ := hx
  obtain ⟨z, rfl⟩ := Int.eq_ofNat_of_zero_le hx0
  have hz : z < W64 := by unfold W64; omega
  have hbr : Byt r := fun y hy => h.b y (List.mem_cons_of_mem _ hy)
  have hv := vl_lt8 hbr (by omega)
  have hso := szo_bd hv
  obtain ⟨hbh, -, -, -, hbw, hlw, -⟩ := nf_small hof
  have hB : Bl w w := Bl.refl w
  refine cw_enter Tryd.func16 rfl 49 rfl ?_
  show CW _ _ _ _ _ _ _ [(0, .slice a n c)] _
  refine cw_seq ?_
  refine cw_region ?_
  refine rw_p 2 (.string (strOfNums ([]))) (fun _ => by kernel_rfl) (fun _ => by kernel_rfl) ?_
  refine rw_nil ?_
  refine nw_then ?_
  refine cw_seq ?_
  obtain ⟨gb1, of2, rfl, hc3⟩ := h.at0 (k := 0) (by omega)
  replace hc3 : _ = some (Value.int .u8 ((z : Nat) : Int)) := hc3
  refine cw_region ?_
  refine rw_p 7 (.slice (some ⟨gb1, of2, none⟩) n c) (fun _ => by kernel_rfl) (fun _ => by kernel_rfl) ?_
  refine rw_p 8 (.pointer (some ⟨gb1, of2 + 0 * 1, none⟩)) (fun _ => by kernel_rfl) (fun _ => ol_index 22 _ _ gb1 of2 0 n c 1 5 rfl (by kernel_rfl) (by kernel_rfl) (by omega) Tryd.underlying22 (by kernel_rfl)) ?_
  refine rw_p 9 (.int .u8 ((z : Nat) : Int)) (fun _ => by kernel_rfl) (fun _ => ol_cell 5 _ ⟨gb1, of2 + 0 * 1, none⟩ _ _ rfl (by kernel_rfl) hc3 Tryd.underlying5 rfl) ?_
  refine rw_call 10 14 #[.int .u8 ((z : Nat) : Int)] (fun _ => by kernel_rfl) (fun _ => by kernel_rfl) (R := RVl w (.tuple #[.agg (NfV o), .bool true])) (wof_yes hof ⟨hx0, hx1⟩ w ht) ?_
  rintro _ w4 ⟨rfl, hb5⟩
  replace hB := hB.go hb5
  replace ht := ht.go hb5
  replace h := h.go hb5
  replace hc3 := cell_go hc3 hb5
  refine rw_p 6 (.tuple #[.agg (NfV o), .bool true]) (fun _ => by kernel_rfl) (fun _ => by kernel_rfl) ?_
  refine rw_p 11 (.agg (NfV o)) (fun _ => by kernel_rfl) (fun _ => by kernel_rfl) ?_
  refine rw_p 12 (.bool true) (fun _ => by kernel_rfl) (fun _ => by kernel_rfl) ?_
  refine rw_new 3 (#[.string (strOfNums []), .int .i64 0, .int .i64 0, .int .i64 0, .int .u64 0]) 43 (fun _ => by kernel_rfl) (fun _ => by kernel_rfl) ?_
  intro w6 g7 hn8
  have hzg7 : w.heap.size ≤ g7 := by have := hB.size; have := hn8.hg; omega
  have hr9 : Rw g7 w6 (#[.string (strOfNums []), .int .i64 0, .int .i64 0, .int .i64 0, .int .u64 0]) 43 := hn8.row
  refine rw_put g7 (NfV o) (fun _ => by kernel_rfl) (fun _ => ol_store 43 _ _ _ _ _ 43 rfl (by kernel_rfl) (by kernel_rfl) hr9 (by kernel_rfl) rfl (by kernel_rfl)) ?_
  intro w10 hp11
  have hbg7 : Below w4.heap.size w4 w10 := hp11.below hn8.below (Nat.le_of_eq hn8.hg.symm) (by have := hn8.size; have := hn8.hg; omega)
  replace hB := hB.go hbg7
  replace ht := ht.go hbg7
  replace h := h.go hbg7
  replace hc3 := cell_go hc3 hbg7
  have hr12 : Rw g7 w10 (NfV o) 43 := hr9.put hp11
  refine rw_p 4 (.bool true) (fun _ => by kernel_rfl) (fun _ => by kernel_rfl) ?_
  refine rw_nil ?_
  refine nw_then ?_
  refine cw_seq ?_
  refine cw_seq ?_
  refine cw_region ?_
  refine rw_p 13 (.bool true) (fun _ => by kernel_rfl) (fun _ => by kernel_rfl) ?_
  refine rw_p 14 (.bool false) (fun _ => by kernel_rfl) (fun _ => by kernel_rfl) ?_
  refine rw_p 15 (.bool false) (fun _ => by kernel_rfl) (fun _ => by kernel_rfl) ?_
  refine rw_p 16 (.slice (some ⟨gb1, of2, none⟩) n c) (fun _ => by kernel_rfl) (fun _ => by kernel_rfl) ?_
  refine rw_p 17 (.int .i64 ((n : Nat) : Int)) (fun _ => by kernel_rfl) (fun _ => by kernel_rfl) ?_
  refine rw_p 18 (.pointer (some ⟨g7, 1, none⟩)) (fun _ => by kernel_rfl) (fun _ => by kernel_rfl) ?_
  refine rw_p 19 (.int .i64 ((o.bh : Nat) : Int)) (fun _ => by kernel_rfl) (fun _ => ol_cell 3 _ ⟨g7, 1, none⟩ _ _ rfl (by kernel_rfl) (by rw [cell_of_row _ _ _ _ _ _ hr12]; rfl) Tryd.underlying3 rfl) ?_
  refine rw_p 20 (.bool (decide (((n : Nat) : Int) ≤ ((o.bh : Nat) : Int)))) (fun _ => by kernel_rfl) (fun _ => by kernel_rfl) ?_
  refine rw_p 21 (.bool (decide (((n : Nat) : Int) ≤ ((o.bh : Nat) : Int)))) (fun _ => by kernel_rfl) (fun _ => by kernel_rfl) ?_
  refine rw_nil ?_
  refine nw_then ?_
  cases hq13 : (decide (((n : Nat) : Int) ≤ ((o.bh : Nat) : Int))) with
  | true =>
    have dhq13 := of_decide_eq_true hq13
    refine cw_cond_t (fun _ => by kernel_rfl) ?_
    refine cw_seq ?_
    refine cw_region ?_
    refine rw_p 22 (.slice (some ⟨gb1, of2, none⟩) n c) (fun _ => by kernel_rfl) (fun _ => by kernel_rfl) ?_
    refine rw_p 23 (.pointer (some ⟨gb1, of2 + 0 * 1, none⟩)) (fun _ => by kernel_rfl) (fun _ => ol_index 22 _ _ gb1 of2 0 n c 1 5 rfl (by kernel_rfl) (by kernel_rfl) (by omega) Tryd.underlying22 (by kernel_rfl)) ?_
    refine rw_p 24 (.int .u8 ((z : Nat) : Int)) (fun _ => by kernel_rfl) (fun _ => ol_cell 5 _ ⟨gb1, of2 + 0 * 1, none⟩ _ _ rfl (by kernel_rfl) hc3 Tryd.underlying5 rfl) ?_
    refine rw_p 25 (.int .u64 ((z : Nat) : Int)) (fun _ => by kernel_rfl) (fun _ => ol_cv 5 29 .u8 .u64 _ ((z : Nat) : Int) ((z : Nat) : Int) rfl Tryd.underlying5 Tryd.underlying29 (by kernel_rfl) (wrapI (by right; left; exact ⟨rfl, by omega, by omega⟩))) ?_
    refine rw_call 26 28 #[.string (strOfNums byteW), .int .u64 ((z : Nat) : Int)] (fun _ => by kernel_rfl) (fun _ => by kernel_rfl) (R := RVl w10 (.string (strOfNums (byteW ++ 32 :: pr z)))) (wwith (byt_lit (by decide)) (by decide) hz w10) ?_
    rintro _ w14 ⟨rfl, hb15⟩
    replace hB := hB.go hb15
    replace ht := ht.go hb15
    replace h := h.go hb15
    replace hc3 := cell_go hc3 hb15
    replace hr12 := hr12.go hb15
    refine rw_p 2 (.string (strOfNums (byteW ++ 32 :: pr z))) (fun _ => by kernel_rfl) (fun _ => by kernel_rfl) ?_
    refine rw_nil ?_
    refine nw_then ?_
    refine cw_ret ?_
    refine nw_ret_then ?_
    refine nw_ret_body (.string (strOfNums (byteW ++ 32 :: pr z))) (fun _ => by kernel_rfl) ?_
    refine ⟨_, rfl, ?_, hB⟩
    rw [wr_lt hof (by omega)]; rfl
  | false =>
    have dhq13 := of_decide_eq_false hq13
    refine cw_cond_f (fun _ => by kernel_rfl) ?_
    refine cw_skip ?_
    refine nw_then ?_
    refine cw_seq ?_
    refine cw_seq ?_
    refine cw_region ?_
    refine rw_p 27 (.pointer (some ⟨g7, 1, none⟩)) (fun _ => by kernel_rfl) (fun _ => by kernel_rfl) ?_
    refine rw_p 28 (.int .i64 ((o.bh : Nat) : Int)) (fun _ => by kernel_rfl) (fun _ => ol_cell 3 _ ⟨g7, 1, none⟩ _ _ rfl (by kernel_rfl) (by rw [cell_of_row _ _ _ _ _ _ hr12]; rfl) Tryd.underlying3 rfl) ?_
    refine rw_p 29 (.bool (((o.bh : Nat) : Int) == (0 : Int))) (fun _ => by kernel_rfl) (fun _ => by kernel_rfl) ?_
    refine rw_nil ?_
    refine nw_then ?_
    cases hq16 : (((o.bh : Nat) : Int) == (0 : Int)) with
    | true =>
      have dhq16 := eq_of_beq hq16
      refine cw_cond_t (fun _ => by kernel_rfl) ?_
      refine cw_seq ?_
      refine cw_region ?_
      refine rw_p 30 (.pointer (some ⟨g7, 0, none⟩)) (fun _ => by kernel_rfl) (fun _ => by kernel_rfl) ?_
      refine rw_p 31 (.string (strOfNums o.wd)) (fun _ => by kernel_rfl) (fun _ => ol_cell 9 _ ⟨g7, 0, none⟩ _ _ rfl (by kernel_rfl) (by rw [cell_of_row _ _ _ _ _ _ hr12]; rfl) Tryd.underlying9 rfl) ?_
      refine rw_p 2 (.string (strOfNums o.wd)) (fun _ => by kernel_rfl) (fun _ => by kernel_rfl) ?_
      refine rw_nil ?_
      refine nw_then ?_
      refine cw_ret ?_
      refine nw_ret_then ?_
      refine nw_ret_body (.string (strOfNums o.wd)) (fun _ => by kernel_rfl) ?_
      refine ⟨_, rfl, ?_, hB⟩
      rw [wr_0 hof (by omega)]
    | false =>
      have dhq16 := ne_of_beq_false hq16
      refine cw_cond_f (fun _ => by kernel_rfl) ?_
      refine cw_skip ?_
      refine nw_then ?_
      refine cw_seq ?_
      refine cw_region ?_
      refine rw_p 32 (.slice (some ⟨gb1, of2, none⟩) n c) (fun _ => by kernel_rfl) (fun _ => by kernel_rfl) ?_
      have ha17 := h.from (k := 1) (by omega)
      refine rw_p 33 (.slice (cutA (some ⟨gb1, of2, none⟩) 1 c) (n - 1) (c - 1)) (fun _ => by kernel_rfl) (fun _ => ol_from _ _ (some ⟨gb1, of2, none⟩) n c 1 rfl (by kernel_rfl) (by kernel_rfl) (by omega) h.cap) ?_
      refine rw_call 34 29 #[.slice (cutA (some ⟨gb1, of2, none⟩) 1 c) (n - 1) (c - 1)] (fun _ => by kernel_rfl) (fun _ => by kernel_rfl) (R := RVl w10 (.int .u64 ((vl r : Nat) : Int))) (wvalue w10 (show Ag _ _ _ _ r from ha17) (by omega)) ?_
      rintro _ w18 ⟨rfl, hb19⟩
      replace hB := hB.go hb19
      replace ht := ht.go hb19
      replace h := h.go hb19
      replace hc3 := cell_go hc3 hb19
      replace hr12 := hr12.go hb19
      replace ha17 := ha17.go hb19
      refine rw_p 5 (.int .u64 ((vl r : Nat) : Int)) (fun _ => by kernel_rfl) (fun _ => by kernel_rfl) ?_
      refine rw_nil ?_
      refine nw_then ?_
      refine cw_seq ?_
      refine cw_seq ?_
      refine cw_draw (fun v => Rw g7 v (NfV o) 43) (by kernel_rfl) (hr12) ?_
      replace hB := hB.go (Below.refl _ _).drew
      replace ht := ht.go (Below.refl _ _).drew
      replace h := h.go (Below.refl _ _).drew
      replace hc3 := cell_go hc3 (Below.refl _ _).drew
      replace hr12 := hr12.go (Below.refl _ _).drew
      replace ha17 := ha17.go (Below.refl _ _).drew
      refine dw_take 0 35 (.pointer (some ⟨g7, 1, none⟩)) rfl (by kernel_rfl) (fun _ _ _ h => h) (fun _ => by kernel_rfl) (fun v hv _ => by kernel_rfl) hr12 ?_
      refine dw_take 1 36 (.int .i64 ((o.bh : Nat) : Int)) rfl (by kernel_rfl) (fun _ _ _ h => h) (fun _ => by kernel_rfl) (fun v hv _ => ol_cell 3 _ ⟨g7, 1, none⟩ _ _ rfl (by kernel_rfl) (by rw [cell_of_row _ _ _ _ _ _ hv]; rfl) Tryd.underlying3 rfl) hr12 ?_
      refine dw_take 2 37 (.int .u64 ((vl r : Nat) : Int)) rfl (by kernel_rfl) (fun _ _ _ h => h) (fun _ => by kernel_rfl) (fun v hv _ => by kernel_rfl) hr12 ?_
      refine dw_ready [3] (by kernel_rfl) (by simp) ?_
      refine ar_call 3 38 24 #[.int .u64 ((vl r : Nat) : Int)] rfl (fun _ => by kernel_rfl) (fun _ => by kernel_rfl) (R := RVl w18.drew (.int .i64 ((szo (vl r) : Nat) : Int))) (wsize hv w18.drew) (fun u w' h9 => hr12.go h9.2) ?_ ar_nil
      rintro _ w20 ⟨rfl, hb21⟩
      replace hB := hB.go hb21
      replace ht := ht.go hb21
      replace h := h.go hb21
      replace hc3 := cell_go hc3 hb21
      replace hr12 := hr12.go hb21
      replace ha17 := ha17.go hb21
      refine dw_take 4 39 (.bool (!(((o.bh : Nat) : Int) == ((szo (vl r) : Nat) : Int)))) rfl (by kernel_rfl) (fun _ _ _ h => h) (fun _ => by kernel_rfl) (fun v hv _ => by kernel_rfl) hr12 ?_
      refine dw_done (by kernel_rfl) ?_
      refine nw_then ?_
      cases hq22 : (!(((o.bh : Nat) : Int) == ((szo (vl r) : Nat) : Int))) with
      | true =>
        refine cw_cond_t (fun _ => by kernel_rfl) ?_
        refine cw_seq ?_
        refine cw_region ?_
        refine rw_p 40 (.pointer (some ⟨g7, 1, none⟩)) (fun _ => by kernel_rfl) (fun _ => by kernel_rfl) ?_
        refine rw_p 41 (.int .i64 ((o.bh : Nat) : Int)) (fun _ => by kernel_rfl) (fun _ => ol_cell 3 _ ⟨g7, 1, none⟩ _ _ rfl (by kernel_rfl) (by rw [cell_of_row _ _ _ _ _ _ hr12]; rfl) Tryd.underlying3 rfl) ?_
        have by23 : Byt (pushW ++ pr o.bh) := (byt_app (byt_lit (by decide)) (byt_pr _))
        refine rw_call 42 30 #[.int .i64 ((o.bh : Nat) : Int)] (fun _ => by kernel_rfl) (fun _ => by kernel_rfl) (R := RVl w20 (.string (strOfNums (pushW ++ pr o.bh)))) (wsized (by omega) w20) ?_
        rintro _ w24 ⟨rfl, hb25⟩
        replace hB := hB.go hb25
        replace ht := ht.go hb25
        replace h := h.go hb25
        replace hc3 := cell_go hc3 hb25
        replace hr12 := hr12.go hb25
        replace ha17 := ha17.go hb25
        refine rw_p 43 (.int .u64 ((vl r : Nat) : Int)) (fun _ => by kernel_rfl) (fun _ => by kernel_rfl) ?_
        refine rw_call 44 28 #[.string (strOfNums (pushW ++ pr o.bh)), .int .u64 ((vl r : Nat) : Int)] (fun _ => by kernel_rfl) (fun _ => by kernel_rfl) (R := RVl w24 (.string (strOfNums ((pushW ++ pr o.bh) ++ 32 :: pr (vl r))))) (wwith by23 (by have := pr_len (n := o.bh) (by omega); have : pushW.length = 4 := rfl; simp; omega) hv w24) ?_
        rintro _ w26 ⟨rfl, hb27⟩
        replace hB := hB.go hb27
        replace ht := ht.go hb27
        replace h := h.go hb27
        replace hc3 := cell_go hc3 hb27
        replace hr12 := hr12.go hb27
        replace ha17 := ha17.go hb27
        refine rw_p 2 (.string (strOfNums ((pushW ++ pr o.bh) ++ 32 :: pr (vl r)))) (fun _ => by kernel_rfl) (fun _ => by kernel_rfl) ?_
        refine rw_nil ?_
        refine nw_then ?_
        refine cw_ret ?_
        refine nw_ret_then ?_
        refine nw_ret_body (.string (strOfNums ((pushW ++ pr o.bh) ++ 32 :: pr (vl r)))) (fun _ => by kernel_rfl) ?_
        refine ⟨_, rfl, ?_, hB⟩
        have d9 : ((o.bh : Nat) : Int) ≠ ((szo (vl r) : Nat) : Int) := by simpa using hq22
        rw [wr_p hof (by omega) (by omega) (by omega)]
      | false =>
        refine cw_cond_f (fun _ => by kernel_rfl) ?_
        refine cw_skip ?_
        refine nw_then ?_
        refine cw_seq ?_
        refine cw_region ?_
        refine rw_p 45 (.pointer (some ⟨g7, 0, none⟩)) (fun _ => by kernel_rfl) (fun _ => by kernel_rfl) ?_
        refine rw_p 46 (.string (strOfNums o.wd)) (fun _ => by kernel_rfl) (fun _ => ol_cell 9 _ ⟨g7, 0, none⟩ _ _ rfl (by kernel_rfl) (by rw [cell_of_row _ _ _ _ _ _ hr12]; rfl) Tryd.underlying9 rfl) ?_
        refine rw_p 47 (.int .u64 ((vl r : Nat) : Int)) (fun _ => by kernel_rfl) (fun _ => by kernel_rfl) ?_
        refine rw_call 48 28 #[.string (strOfNums o.wd), .int .u64 ((vl r : Nat) : Int)] (fun _ => by kernel_rfl) (fun _ => by kernel_rfl) (R := RVl w20 (.string (strOfNums (o.wd ++ 32 :: pr (vl r))))) (wwith hbw (by omega) hv w20) ?_
        rintro _ w28 ⟨rfl, hb29⟩
        replace hB := hB.go hb29
        replace ht := ht.go hb29
        replace h := h.go hb29
        replace hc3 := cell_go hc3 hb29
        replace hr12 := hr12.go hb29
        replace ha17 := ha17.go hb29
        refine rw_p 2 (.string (strOfNums (o.wd ++ 32 :: pr (vl r)))) (fun _ => by kernel_rfl) (fun _ => by kernel_rfl) ?_
        refine rw_nil ?_
        refine nw_then ?_
        refine cw_ret ?_
        refine nw_ret_body (.string (strOfNums (o.wd ++ 32 :: pr (vl r)))) (fun _ => by kernel_rfl) ?_
        refine ⟨_, rfl, ?_, hB⟩
        have d9 : ((o.bh : Nat) : Int) = ((szo (vl r) : Nat) : Int) := by simpa using hq22
        rw [wr_w hof (by omega) (by omega) (by omega)]
theorem wwritten {a : Option Addr} {n c : Nat} {b : List Int} (w : World) (h : Ag w a n c b) (ht : Tb w) (hne : 0 < n) (hn : n ≤ 9) : Calls Tryd.prog 16 #[.slice a n c] w fun e w' => ∃ v, e = .returned v ∧ RVl w (.string (strOfNums (wr b))) v w' := by
  obtain ⟨x, r, rfl, hrl⟩ := cons_of h hne
  cases hof : ofP x with
  | none => exact wwritten_no hof w h ht hrl hn
  | some o => exact wwritten_some hof w h ht hrl hn
end Go.Proofs.YtbjjboicfghldabDoor

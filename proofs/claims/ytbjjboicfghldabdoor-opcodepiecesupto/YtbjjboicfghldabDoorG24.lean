/- What the program's run, skip and next answer. -/
import Derived.Test.YtbjjboicfghldabDoorG23
namespace Go.Proofs.YtbjjboicfghldabDoor
open Go.RowKit
open Wo
set_option linter.unusedVariables false
set_option maxRecDepth 100000
set_option maxHeartbeats 1000000 in
theorem wrun_true {l : List Int} (hb : Byt l) (hl : l.length ≤ 9223372036854775000) (w : World) : Calls Tryd.prog 21 #[.string (strOfNums l), .bool true] w fun e w' => ∃ v, e = .returned v ∧ RVl w (.int .i64 ((rn l true : Nat) : Int)) v w' := by
  have hB : Bl w w := Bl.refl w
  refine cw_enter Tryd.func21 rfl 24 rfl ?_
  show CW _ _ _ _ _ _ _ [(0, .string (strOfNums l)), (1, .bool true)] _
  refine cw_seq ?_
  refine cw_region ?_
  refine rw_p 4 (.int .i64 0) (fun _ => by kernel_rfl) (fun _ => by kernel_rfl) ?_
  refine rw_nil ?_
  refine nw_then ?_
  refine cw_seq ?_
  refine cw_seq ?_
  refine cw_region ?_
  refine rw_p 7 (.string (strOfNums l)) (fun _ => by kernel_rfl) (fun _ => by kernel_rfl) ?_
  refine rw_v 8 (.pointer (some ⟨w.heap.size, 0, none⟩)) (fun _ => by kernel_rfl) (fun _ => ol_rangeS _ (strOfNums l) rfl (by kernel_rfl)) ?_
  refine rw_nil ?_
  refine nw_then ?_
  refine cw_block ?_
  refine cw_loop (X := Nat) (fun q => [(0, .string (strOfNums l)), (1, .bool true), (8, .pointer (some ⟨w.heap.size, 0, none⟩))]) (fun q v => v = w.iter (strOfNums l) q ∧ q ≤ l.length ∧ ∀ j, j < q → bl (l.getD j 0) = true) (fun q => l.length - q) 0 (by exact ⟨fun _ => by kernel_rfl, ⟨fun _ => by kernel_rfl, ⟨fun _ => by kernel_rfl, trivial⟩⟩⟩) ⟨rfl, by omega, fun j hj => by omega⟩ ?_
  rintro p wl ⟨rfl, hp, hj⟩
  by_cases hlt : p < l.length
  · skip
    obtain ⟨ch, k, hd⟩ : ∃ ch k, Utf8.decode (strOfNums l) p = (ch, k) := ⟨_, _, rfl⟩
    obtain ⟨hk1, hk2, hk3, hk4, hk5⟩ := dec_spec hb hlt hd
    have hsz : p < (strOfNums l).size := by rw [str_size]; exact hlt
    refine cw_seq ?_
    refine cw_region ?_
    refine rw_v 9 (.tuple #[.bool true, .int .i64 ((p : Nat) : Int), .int .i32 ((ch : Nat) : Int)]) (fun _ => by kernel_rfl) (fun _ => ol_next _ _ _ _ rfl (by kernel_rfl) (nx_yes hsz hd)) ?_
    refine rw_p 10 (.bool true) (fun _ => by kernel_rfl) (fun _ => by kernel_rfl) ?_
    refine rw_nil ?_
    refine nw_then ?_
    refine cw_seq ?_
    refine cw_cond_t (fun _ => by kernel_rfl) ?_
    refine cw_skip ?_
    refine nw_then ?_
    refine cw_block ?_
    refine cw_seq ?_
    refine cw_region ?_
    refine rw_p 11 (.int .i64 ((p : Nat) : Int)) (fun _ => by kernel_rfl) (fun _ => by kernel_rfl) ?_
    refine rw_p 12 (.int .i32 ((ch : Nat) : Int)) (fun _ => by kernel_rfl) (fun _ => by kernel_rfl) ?_
    refine rw_p 5 (.int .i64 ((p : Nat) : Int)) (fun _ => by kernel_rfl) (fun _ => by kernel_rfl) ?_
    refine rw_p 6 (.int .i32 ((ch : Nat) : Int)) (fun _ => by kernel_rfl) (fun _ => by kernel_rfl) ?_
    refine rw_nil ?_
    refine nw_then ?_
    refine cw_seq ?_
    refine cw_region ?_
    refine rw_p 13 (.int .i32 ((ch : Nat) : Int)) (fun _ => by kernel_rfl) (fun _ => by kernel_rfl) ?_
    refine rw_p 14 (.bool (((ch : Nat) : Int) == (32 : Int))) (fun _ => by kernel_rfl) (fun _ => by kernel_rfl) ?_
    refine rw_p 15 (.bool (((ch : Nat) : Int) == (32 : Int))) (fun _ => by kernel_rfl) (fun _ => by kernel_rfl) ?_
    cases hq1 : (((ch : Nat) : Int) == (32 : Int)) with
    | true =>
      have dhq1 := eq_of_beq hq1
      refine rw_off 16 (fun _ => by kernel_rfl) ?_
      refine rw_off 17 (fun _ => by kernel_rfl) ?_
      refine rw_p 18 (.bool true) (fun _ => by kernel_rfl) (fun _ => by kernel_rfl) ?_
      refine rw_p 19 (.bool true) (fun _ => by kernel_rfl) (fun _ => by kernel_rfl) ?_
      refine rw_p 20 (.bool false) (fun _ => by kernel_rfl) (fun _ => by kernel_rfl) ?_
      refine rw_nil ?_
      refine nw_then ?_
      refine cw_cond_f (fun _ => by kernel_rfl) ?_
      refine cw_skip ?_
      refine nw_block ?_
      refine nw_round (X := Nat) (E := fun q => [(0, .string (strOfNums l)), (1, .bool true), (8, .pointer (some ⟨w.heap.size, 0, none⟩))]) (R := fun q v => v = w.iter (strOfNums l) q ∧ q ≤ l.length ∧ ∀ j, j < q → bl (l.getD j 0) = true) (μ := fun q => l.length - q) (x := p) (p + k) (by exact ⟨fun _ => by kernel_rfl, ⟨fun _ => by kernel_rfl, ⟨fun _ => by kernel_rfl, trivial⟩⟩⟩) ⟨rfl, hk2, fun j hjj => ?_⟩ (by show l.length - (p + k) < l.length - p; omega)
      by_cases hjp : j < p
      · exact hj j hjp
      · rw [hk4 j (by omega) hjj, ← hk3]
        show (((ch : Nat) : Int) == 32 || ((ch : Nat) : Int) == 10) = true
        try rw [hq1]
        try rfl
    | false =>
      have dhq1 := ne_of_beq_false hq1
      refine rw_p 16 (.int .i32 ((ch : Nat) : Int)) (fun _ => by kernel_rfl) (fun _ => by kernel_rfl) ?_
      refine rw_p 17 (.bool (((ch : Nat) : Int) == (10 : Int))) (fun _ => by kernel_rfl) (fun _ => by kernel_rfl) ?_
      refine rw_p 18 (.bool (((ch : Nat) : Int) == (10 : Int))) (fun _ => by kernel_rfl) (fun _ => by kernel_rfl) ?_
      refine rw_p 19 (.bool true) (fun _ => by kernel_rfl) (fun _ => by kernel_rfl) ?_
      cases hq2 : (((ch : Nat) : Int) == (10 : Int)) with
      | true =>
        have dhq2 := eq_of_beq hq2
        refine rw_p 20 (.bool false) (fun _ => by kernel_rfl) (fun _ => by kernel_rfl) ?_
        refine rw_nil ?_
        refine nw_then ?_
        refine cw_cond_f (fun _ => by kernel_rfl) ?_
        refine cw_skip ?_
        refine nw_block ?_
        refine nw_round (X := Nat) (E := fun q => [(0, .string (strOfNums l)), (1, .bool true), (8, .pointer (some ⟨w.heap.size, 0, none⟩))]) (R := fun q v => v = w.iter (strOfNums l) q ∧ q ≤ l.length ∧ ∀ j, j < q → bl (l.getD j 0) = true) (μ := fun q => l.length - q) (x := p) (p + k) (by exact ⟨fun _ => by kernel_rfl, ⟨fun _ => by kernel_rfl, ⟨fun _ => by kernel_rfl, trivial⟩⟩⟩) ⟨rfl, hk2, fun j hjj => ?_⟩ (by show l.length - (p + k) < l.length - p; omega)
        by_cases hjp : j < p
        · exact hj j hjp
        · rw [hk4 j (by omega) hjj, ← hk3]
          show (((ch : Nat) : Int) == 32 || ((ch : Nat) : Int) == 10) = true
          try rw [hq1]
          try rw [hq2]
          try rfl
      | false =>
        have dhq2 := ne_of_beq_false hq2
        refine rw_p 20 (.bool true) (fun _ => by kernel_rfl) (fun _ => by kernel_rfl) ?_
        refine rw_nil ?_
        refine nw_then ?_
        refine cw_cond_t (fun _ => by kernel_rfl) ?_
        refine cw_seq ?_
        refine cw_region ?_
        refine rw_p 21 (.int .i64 ((p : Nat) : Int)) (fun _ => by kernel_rfl) (fun _ => by kernel_rfl) ?_
        refine rw_p 4 (.int .i64 ((p : Nat) : Int)) (fun _ => by kernel_rfl) (fun _ => by kernel_rfl) ?_
        refine rw_nil ?_
        refine nw_then ?_
        refine cw_ret ?_
        refine nw_ret_block ?_
        refine nw_ret_then ?_
        refine nw_ret_block ?_
        refine nw_ret_then ?_
        refine nw_ret_body (.int .i64 ((p : Nat) : Int)) (fun _ => by kernel_rfl) ?_
        refine ⟨_, rfl, ?_, iter_bl _ _ _⟩
        congr 2
        refine (rn_eq l true p hp hj (.inr ?_)).symm
        rw [← hk3]
        have hz : bl ((ch : Nat) : Int) = false := by
          show (((ch : Nat) : Int) == 32 || ((ch : Nat) : Int) == 10) = false
          try rw [hq1]
          try rw [hq2]
          try rfl
        rw [hz]; decide
  · skip
    refine cw_seq ?_
    refine cw_region ?_
    refine rw_v 9 (.tuple #[.bool false]) (fun _ => by kernel_rfl) (fun _ => ol_next _ _ _ _ rfl (by kernel_rfl) (run_next_end w (strOfNums l) p _ (by rw [str_size]; exact hlt))) ?_
    refine rw_p 10 (.bool false) (fun _ => by kernel_rfl) (fun _ => by kernel_rfl) ?_
    refine rw_nil ?_
    refine nw_then ?_
    refine cw_seq ?_
    refine cw_cond_f (fun _ => by kernel_rfl) ?_
    refine cw_exit ?_
    refine nw_exit_then ?_
    refine nw_exit_then ?_
    refine nw_exit_here ?_
    refine nw_then ?_
    refine cw_seq ?_
    refine cw_region ?_
    refine rw_p 22 (.string (strOfNums l)) (fun _ => by kernel_rfl) (fun _ => by kernel_rfl) ?_
    refine rw_p 23 (.int .i64 ((l.length : Nat) : Int)) (fun _ => by kernel_rfl) (fun _ => ol_len9 _ l rfl Tryd.underlying9 (by kernel_rfl)) ?_
    refine rw_p 4 (.int .i64 ((l.length : Nat) : Int)) (fun _ => by kernel_rfl) (fun _ => by kernel_rfl) ?_
    refine rw_nil ?_
    refine nw_then ?_
    refine cw_ret ?_
    refine nw_ret_body (.int .i64 ((l.length : Nat) : Int)) (fun _ => by kernel_rfl) ?_
    refine ⟨_, rfl, ?_, iter_bl _ _ _⟩
    congr 2
    obtain rfl : p = l.length := by omega
    exact (rn_eq l true l.length hp hj (.inl rfl)).symm
set_option maxHeartbeats 1000000 in
theorem wrun_false {l : List Int} (hb : Byt l) (hl : l.length ≤ 9223372036854775000) (w : World) : Calls Tryd.prog 21 #[.string (strOfNums l), .bool false] w fun e w' => ∃ v, e = .returned v ∧ RVl w (.int .i64 ((rn l false : Nat) : Int)) v w' := by
  have hB : Bl w w := Bl.refl w
  refine cw_enter Tryd.func21 rfl 24 rfl ?_
  show CW _ _ _ _ _ _ _ [(0, .string (strOfNums l)), (1, .bool false)] _
  refine cw_seq ?_
  refine cw_region ?_
  refine rw_p 4 (.int .i64 0) (fun _ => by kernel_rfl) (fun _ => by kernel_rfl) ?_
  refine rw_nil ?_
  refine nw_then ?_
  refine cw_seq ?_
  refine cw_seq ?_
  refine cw_region ?_
  refine rw_p 7 (.string (strOfNums l)) (fun _ => by kernel_rfl) (fun _ => by kernel_rfl) ?_
  refine rw_v 8 (.pointer (some ⟨w.heap.size, 0, none⟩)) (fun _ => by kernel_rfl) (fun _ => ol_rangeS _ (strOfNums l) rfl (by kernel_rfl)) ?_
  refine rw_nil ?_
  refine nw_then ?_
  refine cw_block ?_
  refine cw_loop (X := Nat) (fun q => [(0, .string (strOfNums l)), (1, .bool false), (8, .pointer (some ⟨w.heap.size, 0, none⟩))]) (fun q v => v = w.iter (strOfNums l) q ∧ q ≤ l.length ∧ ∀ j, j < q → bl (l.getD j 0) = false) (fun q => l.length - q) 0 (by exact ⟨fun _ => by kernel_rfl, ⟨fun _ => by kernel_rfl, ⟨fun _ => by kernel_rfl, trivial⟩⟩⟩) ⟨rfl, by omega, fun j hj => by omega⟩ ?_
  rintro p wl ⟨rfl, hp, hj⟩
  by_cases hlt : p < l.length
  · skip
    obtain ⟨ch, k, hd⟩ : ∃ ch k, Utf8.decode (strOfNums l) p = (ch, k) := ⟨_, _, rfl⟩
    obtain ⟨hk1, hk2, hk3, hk4, hk5⟩ := dec_spec hb hlt hd
    have hsz : p < (strOfNums l).size := by rw [str_size]; exact hlt
    refine cw_seq ?_
    refine cw_region ?_
    refine rw_v 9 (.tuple #[.bool true, .int .i64 ((p : Nat) : Int), .int .i32 ((ch : Nat) : Int)]) (fun _ => by kernel_rfl) (fun _ => ol_next _ _ _ _ rfl (by kernel_rfl) (nx_yes hsz hd)) ?_
    refine rw_p 10 (.bool true) (fun _ => by kernel_rfl) (fun _ => by kernel_rfl) ?_
    refine rw_nil ?_
    refine nw_then ?_
    refine cw_seq ?_
    refine cw_cond_t (fun _ => by kernel_rfl) ?_
    refine cw_skip ?_
    refine nw_then ?_
    refine cw_block ?_
    refine cw_seq ?_
    refine cw_region ?_
    refine rw_p 11 (.int .i64 ((p : Nat) : Int)) (fun _ => by kernel_rfl) (fun _ => by kernel_rfl) ?_
    refine rw_p 12 (.int .i32 ((ch : Nat) : Int)) (fun _ => by kernel_rfl) (fun _ => by kernel_rfl) ?_
    refine rw_p 5 (.int .i64 ((p : Nat) : Int)) (fun _ => by kernel_rfl) (fun _ => by kernel_rfl) ?_
    refine rw_p 6 (.int .i32 ((ch : Nat) : Int)) (fun _ => by kernel_rfl) (fun _ => by kernel_rfl) ?_
    refine rw_nil ?_
    refine nw_then ?_
    refine cw_seq ?_
    refine cw_region ?_
    refine rw_p 13 (.int .i32 ((ch : Nat) : Int)) (fun _ => by kernel_rfl) (fun _ => by kernel_rfl) ?_
    refine rw_p 14 (.bool (((ch : Nat) : Int) == (32 : Int))) (fun _ => by kernel_rfl) (fun _ => by kernel_rfl) ?_
    refine rw_p 15 (.bool (((ch : Nat) : Int) == (32 : Int))) (fun _ => by kernel_rfl) (fun _ => by kernel_rfl) ?_
    cases hq1 : (((ch : Nat) : Int) == (32 : Int)) with
    | true =>
      have dhq1 := eq_of_beq hq1
      refine rw_off 16 (fun _ => by kernel_rfl) ?_
      refine rw_off 17 (fun _ => by kernel_rfl) ?_
      refine rw_p 18 (.bool true) (fun _ => by kernel_rfl) (fun _ => by kernel_rfl) ?_
      refine rw_p 19 (.bool false) (fun _ => by kernel_rfl) (fun _ => by kernel_rfl) ?_
      refine rw_p 20 (.bool true) (fun _ => by kernel_rfl) (fun _ => by kernel_rfl) ?_
      refine rw_nil ?_
      refine nw_then ?_
      refine cw_cond_t (fun _ => by kernel_rfl) ?_
      refine cw_seq ?_
      refine cw_region ?_
      refine rw_p 21 (.int .i64 ((p : Nat) : Int)) (fun _ => by kernel_rfl) (fun _ => by kernel_rfl) ?_
      refine rw_p 4 (.int .i64 ((p : Nat) : Int)) (fun _ => by kernel_rfl) (fun _ => by kernel_rfl) ?_
      refine rw_nil ?_
      refine nw_then ?_
      refine cw_ret ?_
      refine nw_ret_block ?_
      refine nw_ret_then ?_
      refine nw_ret_block ?_
      refine nw_ret_then ?_
      refine nw_ret_body (.int .i64 ((p : Nat) : Int)) (fun _ => by kernel_rfl) ?_
      refine ⟨_, rfl, ?_, iter_bl _ _ _⟩
      congr 2
      refine (rn_eq l false p hp hj (.inr ?_)).symm
      rw [← hk3]
      have hz : bl ((ch : Nat) : Int) = true := by
        show (((ch : Nat) : Int) == 32 || ((ch : Nat) : Int) == 10) = true
        try rw [hq1]
        try rfl
      rw [hz]; decide
    | false =>
      have dhq1 := ne_of_beq_false hq1
      refine rw_p 16 (.int .i32 ((ch : Nat) : Int)) (fun _ => by kernel_rfl) (fun _ => by kernel_rfl) ?_
      refine rw_p 17 (.bool (((ch : Nat) : Int) == (10 : Int))) (fun _ => by kernel_rfl) (fun _ => by kernel_rfl) ?_
      refine rw_p 18 (.bool (((ch : Nat) : Int) == (10 : Int))) (fun _ => by kernel_rfl) (fun _ => by kernel_rfl) ?_
      refine rw_p 19 (.bool false) (fun _ => by kernel_rfl) (fun _ => by kernel_rfl) ?_
      cases hq2 : (((ch : Nat) : Int) == (10 : Int)) with
      | true =>
        have dhq2 := eq_of_beq hq2
        refine rw_p 20 (.bool true) (fun _ => by kernel_rfl) (fun _ => by kernel_rfl) ?_
        refine rw_nil ?_
        refine nw_then ?_
        refine cw_cond_t (fun _ => by kernel_rfl) ?_
        refine cw_seq ?_
        refine cw_region ?_
        refine rw_p 21 (.int .i64 ((p : Nat) : Int)) (fun _ => by kernel_rfl) (fun _ => by kernel_rfl) ?_
        refine rw_p 4 (.int .i64 ((p : Nat) : Int)) (fun _ => by kernel_rfl) (fun _ => by kernel_rfl) ?_
        refine rw_nil ?_
        refine nw_then ?_
        refine cw_ret ?_
        refine nw_ret_block ?_
        refine nw_ret_then ?_
        refine nw_ret_block ?_
        refine nw_ret_then ?_
        refine nw_ret_body (.int .i64 ((p : Nat) : Int)) (fun _ => by kernel_rfl) ?_
        refine ⟨_, rfl, ?_, iter_bl _ _ _⟩
        congr 2
        refine (rn_eq l false p hp hj (.inr ?_)).symm
        rw [← hk3]
        have hz : bl ((ch : Nat) : Int) = true := by
          show (((ch : Nat) : Int) == 32 || ((ch : Nat) : Int) == 10) = true
          try rw [hq1]
          try rw [hq2]
          try rfl
        rw [hz]; decide
      | false =>
        have dhq2 := ne_of_beq_false hq2
        refine rw_p 20 (.bool false) (fun _ => by kernel_rfl) (fun _ => by kernel_rfl) ?_
        refine rw_nil ?_
        refine nw_then ?_
        refine cw_cond_f (fun _ => by kernel_rfl) ?_
        refine cw_skip ?_
        refine nw_block ?_
        refine nw_round (X := Nat) (E := fun q => [(0, .string (strOfNums l)), (1, .bool false), (8, .pointer (some ⟨w.heap.size, 0, none⟩))]) (R := fun q v => v = w.iter (strOfNums l) q ∧ q ≤ l.length ∧ ∀ j, j < q → bl (l.getD j 0) = false) (μ := fun q => l.length - q) (x := p) (p + k) (by exact ⟨fun _ => by kernel_rfl, ⟨fun _ => by kernel_rfl, ⟨fun _ => by kernel_rfl, trivial⟩⟩⟩) ⟨rfl, hk2, fun j hjj => ?_⟩ (by show l.length - (p + k) < l.length - p; omega)
        by_cases hjp : j < p
        · exact hj j hjp
        · rw [hk4 j (by omega) hjj, ← hk3]
          show (((ch : Nat) : Int) == 32 || ((ch : Nat) : Int) == 10) = false
          try rw [hq1]
          try rw [hq2]
          try rfl
  · skip
    refine cw_seq ?_
    refine cw_region ?_
    refine rw_v 9 (.tuple #[.bool false]) (fun _ => by kernel_rfl) (fun _ => ol_next _ _ _ _ rfl (by kernel_rfl) (run_next_end w (strOfNums l) p _ (by rw [str_size]; exact hlt))) ?_
    refine rw_p 10 (.bool false) (fun _ => by kernel_rfl) (fun _ => by kernel_rfl) ?_
    refine rw_nil ?_
    refine nw_then ?_
    refine cw_seq ?_
    refine cw_cond_f (fun _ => by kernel_rfl) ?_
    refine cw_exit ?_
    refine nw_exit_then ?_
    refine nw_exit_then ?_
    refine nw_exit_here ?_
    refine nw_then ?_
    refine cw_seq ?_
    refine cw_region ?_
    refine rw_p 22 (.string (strOfNums l)) (fun _ => by kernel_rfl) (fun _ => by kernel_rfl) ?_
    refine rw_p 23 (.int .i64 ((l.length : Nat) : Int)) (fun _ => by kernel_rfl) (fun _ => ol_len9 _ l rfl Tryd.underlying9 (by kernel_rfl)) ?_
    refine rw_p 4 (.int .i64 ((l.length : Nat) : Int)) (fun _ => by kernel_rfl) (fun _ => by kernel_rfl) ?_
    refine rw_nil ?_
    refine nw_then ?_
    refine cw_ret ?_
    refine nw_ret_body (.int .i64 ((l.length : Nat) : Int)) (fun _ => by kernel_rfl) ?_
    refine ⟨_, rfl, ?_, iter_bl _ _ _⟩
    congr 2
    obtain rfl : p = l.length := by omega
    exact (rn_eq l false l.length hp hj (.inl rfl)).symm
theorem wrun {l : List Int} (hb : Byt l) (hl : l.length ≤ 9223372036854775000) (b : Bool) (w : World) : Calls Tryd.prog 21 #[.string (strOfNums l), .bool b] w fun e w' => ∃ v, e = .returned v ∧ RVl w (.int .i64 ((rn l b : Nat) : Int)) v w' := by
  cases b with
  | true => exact wrun_true hb hl w
  | false => exact wrun_false hb hl w
theorem wskip {g : Nat} {l : List Int} {p k : Nat} (w : World) (hr : Rw g w (txC l p) 38) (hb : Byt l) (hk : k ≤ l.length) (hp : p + l.length ≤ 9223372036854775000) : Calls Tryd.prog 20 #[.pointer (some ⟨g, 0, none⟩), .int .i64 ((k : Nat) : Int)] w fun e w' => ∃ v, e = .returned v ∧ RTx g w (l.drop k) (p + k) (.tuple #[]) v w' := by
  have hT : Touch g w w := Touch.refl _ _
  refine cw_enter Tryd.func20 rfl 21 rfl ?_
  show CW _ _ _ _ _ _ _ [(0, .pointer (some ⟨g, 0, none⟩)), (1, .int .i64 ((k : Nat) : Int))] _
  refine cw_seq ?_
  refine cw_region ?_
  refine rw_p 4 (.pointer (some ⟨g, 0, none⟩)) (fun _ => by kernel_rfl) (fun _ => by kernel_rfl) ?_
  refine rw_p 5 (.pointer (some ⟨g, 0, none⟩)) (fun _ => by kernel_rfl) (fun _ => by kernel_rfl) ?_
  refine rw_p 6 (.pointer (some ⟨g, 0, none⟩)) (fun _ => by kernel_rfl) (fun _ => by kernel_rfl) ?_
  refine rw_p 7 (.pointer (some ⟨g, 0, none⟩)) (fun _ => by kernel_rfl) (fun _ => by kernel_rfl) ?_
  refine rw_p 8 (.string (strOfNums l)) (fun _ => by kernel_rfl) (fun _ => ol_cell 9 _ ⟨g, 0, none⟩ _ _ rfl (by kernel_rfl) (by rw [cell_of_row _ _ _ _ _ _ hr]; rfl) Tryd.underlying9 rfl) ?_
  refine rw_p 9 (.int .i64 ((k : Nat) : Int)) (fun _ => by kernel_rfl) (fun _ => by kernel_rfl) ?_
  have by1 : Byt (l.drop k) := (byt_drop hb _)
  refine rw_p 10 (.string (strOfNums (l.drop k))) (fun _ => by kernel_rfl) (fun _ => ol_sfrom _ _ l k rfl Tryd.underlying9 (by kernel_rfl) (by kernel_rfl) (by omega)) ?_
  refine rw_p 11 (.pointer (some ⟨g, 0, none⟩)) (fun _ => by kernel_rfl) (fun _ => by kernel_rfl) ?_
  refine rw_p 12 (.pointer (some ⟨g, 0, none⟩)) (fun _ => by kernel_rfl) (fun _ => by kernel_rfl) ?_
  refine rw_put g #[.string (strOfNums (l.drop k)), .int .i64 ((p : Nat) : Int)] (fun _ => by kernel_rfl) (fun _ => ol_cellrow 9 _ _ g 0 _ _ (.string (strOfNums (l.drop k))) rfl (by kernel_rfl) (by kernel_rfl) hr (by kernel_rfl) (Nat.le_of_ble_eq_true rfl) rfl rfl rfl) ?_
  intro w2 hp3
  replace hT := hT.trans hp3.touch
  replace hr := hr.put hp3
  refine rw_nil ?_
  refine nw_then ?_
  refine cw_region ?_
  refine rw_p 13 (.pointer (some ⟨g, 0, none⟩)) (fun _ => by kernel_rfl) (fun _ => by kernel_rfl) ?_
  refine rw_p 14 (.pointer (some ⟨g, 0, none⟩)) (fun _ => by kernel_rfl) (fun _ => by kernel_rfl) ?_
  refine rw_p 15 (.pointer (some ⟨g, 1, none⟩)) (fun _ => by kernel_rfl) (fun _ => by kernel_rfl) ?_
  refine rw_p 16 (.int .i64 ((p : Nat) : Int)) (fun _ => by kernel_rfl) (fun _ => ol_cell 3 _ ⟨g, 1, none⟩ _ _ rfl (by kernel_rfl) (by rw [cell_of_row _ _ _ _ _ _ hr]; rfl) Tryd.underlying3 rfl) ?_
  refine rw_p 17 (.int .i64 ((k : Nat) : Int)) (fun _ => by kernel_rfl) (fun _ => by kernel_rfl) ?_
  refine rw_p 18 (.int .i64 ((p + k : Nat) : Int)) (fun _ => by kernel_rfl) (fun _ => ol_conv (v := .int .i64 (IntKind.i64.wrap (((p : Nat) : Int) + ((k : Nat) : Int)))) (by kernel_rfl) (congrArg (Value.int .i64) (show IntKind.i64.wrap (((p : Nat) : Int) + ((k : Nat) : Int)) = ((p + k : Nat) : Int) from (wrap64 (by omega) (by omega)).trans (by omega)))) ?_
  refine rw_p 19 (.pointer (some ⟨g, 0, none⟩)) (fun _ => by kernel_rfl) (fun _ => by kernel_rfl) ?_
  refine rw_p 20 (.pointer (some ⟨g, 1, none⟩)) (fun _ => by kernel_rfl) (fun _ => by kernel_rfl) ?_
  refine rw_put g #[.string (strOfNums (l.drop k)), .int .i64 ((p + k : Nat) : Int)] (fun _ => by kernel_rfl) (fun _ => ol_cellrow 3 _ _ g 1 _ _ (.int .i64 ((p + k : Nat) : Int)) rfl (by kernel_rfl) (by kernel_rfl) hr (by kernel_rfl) (Nat.le_of_ble_eq_true rfl) rfl rfl rfl) ?_
  intro w4 hp5
  replace hT := hT.trans hp5.touch
  replace hr := hr.put hp5
  refine rw_nil ?_
  refine nw_end_body (.tuple #[]) (fun _ => by kernel_rfl) ?_
  exact ⟨_, rfl, rfl, hr, hT⟩
set_option maxHeartbeats 1000000 in
theorem wnext {g : Nat} {l : List Int} {p : Nat} (w : World) (hr : Rw g w (txC l p) 38) (hb : Byt l) (hp : p + l.length ≤ 9223372036854775000) : Calls Tryd.prog 12 #[.pointer (some ⟨g, 0, none⟩)] w fun e w' => ∃ v, e = .returned v ∧ RTx g w (nxR l) (p + rn l true + (nxW l).length) (.tuple #[.string (strOfNums (nxW l)), .int .i64 ((p + rn l true : Nat) : Int)]) v w' := by
  have h1 := rn_le l true
  have h2 := rn_le (l.drop (rn l true)) false
  have h3 : (l.drop (rn l true)).length = l.length - rn l true := List.length_drop
  have hT : Touch g w w := Touch.refl _ _
  refine cw_enter Tryd.func12 rfl 33 rfl ?_
  show CW _ _ _ _ _ _ _ [(0, .pointer (some ⟨g, 0, none⟩))] _
  refine cw_seq ?_
  refine cw_region ?_
  refine rw_p 2 (.string (strOfNums ([]))) (fun _ => by kernel_rfl) (fun _ => by kernel_rfl) ?_
  refine rw_p 3 (.int .i64 0) (fun _ => by kernel_rfl) (fun _ => by kernel_rfl) ?_
  refine rw_nil ?_
  refine nw_then ?_
  refine cw_seq ?_
  refine cw_region ?_
  refine rw_p 6 (.pointer (some ⟨g, 0, none⟩)) (fun _ => by kernel_rfl) (fun _ => by kernel_rfl) ?_
  refine rw_p 7 (.pointer (some ⟨g, 0, none⟩)) (fun _ => by kernel_rfl) (fun _ => by kernel_rfl) ?_
  refine rw_p 8 (.pointer (some ⟨g, 0, none⟩)) (fun _ => by kernel_rfl) (fun _ => by kernel_rfl) ?_
  refine rw_p 9 (.pointer (some ⟨g, 0, none⟩)) (fun _ => by kernel_rfl) (fun _ => by kernel_rfl) ?_
  refine rw_p 10 (.string (strOfNums l)) (fun _ => by kernel_rfl) (fun _ => ol_cell 9 _ ⟨g, 0, none⟩ _ _ rfl (by kernel_rfl) (by rw [cell_of_row _ _ _ _ _ _ hr]; rfl) Tryd.underlying9 rfl) ?_
  refine rw_call 11 21 #[.string (strOfNums l), .bool true] (fun _ => by kernel_rfl) (fun _ => by kernel_rfl) (R := RVl w (.int .i64 ((rn l true : Nat) : Int))) (wrun (l := l) hb (by omega) true w) ?_
  rintro _ w1 ⟨rfl, hb2⟩
  replace hT := hT.trans (Touch.of_below hb2)
  replace hr := hr.go hb2
  refine rw_call 12 20 #[.pointer (some ⟨g, 0, none⟩), .int .i64 ((rn l true : Nat) : Int)] (fun _ => by kernel_rfl) (fun _ => by kernel_rfl) (R := RTx g w1 (l.drop (rn l true)) (p + rn l true) (.tuple #[])) (wskip w1 hr hb (by omega) (by omega)) ?_
  rintro _ w3 ⟨rfl, hr4, hk5⟩
  replace hT := hT.trans hk5
  clear hr; have hr := hr4
  refine rw_nil ?_
  refine nw_then ?_
  refine cw_seq ?_
  refine cw_draw (fun v => Rw g v (txC (l.drop (rn l true)) (p + rn l true)) 38) (by kernel_rfl) (hr) ?_
  replace hT := hT.trans (Touch.of_below (Below.refl _ _).drew)
  replace hr := hr.go (Below.refl _ _).drew
  refine dw_take 0 13 (.pointer (some ⟨g, 0, none⟩)) rfl (by kernel_rfl) (fun _ _ _ h => h) (fun _ => by kernel_rfl) (fun v hv _ => by kernel_rfl) hr ?_
  refine dw_take 1 14 (.pointer (some ⟨g, 0, none⟩)) rfl (by kernel_rfl) (fun _ _ _ h => h) (fun _ => by kernel_rfl) (fun v hv _ => by kernel_rfl) hr ?_
  refine dw_take 2 15 (.pointer (some ⟨g, 0, none⟩)) rfl (by kernel_rfl) (fun _ _ _ h => h) (fun _ => by kernel_rfl) (fun v hv _ => by kernel_rfl) hr ?_
  refine dw_take 3 16 (.string (strOfNums (l.drop (rn l true)))) rfl (by kernel_rfl) (fun _ _ _ h => h) (fun _ => by kernel_rfl) (fun v hv _ => ol_cell 9 _ ⟨g, 0, none⟩ _ _ rfl (by kernel_rfl) (by rw [cell_of_row _ _ _ _ _ _ hv]; rfl) Tryd.underlying9 rfl) hr ?_
  refine dw_take 4 17 (.pointer (some ⟨g, 0, none⟩)) rfl (by kernel_rfl) (fun _ _ _ h => h) (fun _ => by kernel_rfl) (fun v hv _ => by kernel_rfl) hr ?_
  refine dw_take 5 18 (.pointer (some ⟨g, 0, none⟩)) rfl (by kernel_rfl) (fun _ _ _ h => h) (fun _ => by kernel_rfl) (fun v hv _ => by kernel_rfl) hr ?_
  refine dw_take 6 19 (.pointer (some ⟨g, 0, none⟩)) rfl (by kernel_rfl) (fun _ _ _ h => h) (fun _ => by kernel_rfl) (fun v hv _ => by kernel_rfl) hr ?_
  refine dw_take 7 20 (.string (strOfNums (l.drop (rn l true)))) rfl (by kernel_rfl) (fun _ _ _ h => h) (fun _ => by kernel_rfl) (fun v hv _ => ol_cell 9 _ ⟨g, 0, none⟩ _ _ rfl (by kernel_rfl) (by rw [cell_of_row _ _ _ _ _ _ hv]; rfl) Tryd.underlying9 rfl) hr ?_
  refine dw_take 10 23 (.pointer (some ⟨g, 0, none⟩)) rfl (by kernel_rfl) (fun _ _ _ h => h) (fun _ => by kernel_rfl) (fun v hv _ => by kernel_rfl) hr ?_
  refine dw_take 11 24 (.pointer (some ⟨g, 0, none⟩)) rfl (by kernel_rfl) (fun _ _ _ h => h) (fun _ => by kernel_rfl) (fun v hv _ => by kernel_rfl) hr ?_
  refine dw_take 12 25 (.pointer (some ⟨g, 1, none⟩)) rfl (by kernel_rfl) (fun _ _ _ h => h) (fun _ => by kernel_rfl) (fun v hv _ => by kernel_rfl) hr ?_
  refine dw_take 13 26 (.int .i64 ((p + rn l true : Nat) : Int)) rfl (by kernel_rfl) (fun _ _ _ h => h) (fun _ => by kernel_rfl) (fun v hv _ => ol_cell 3 _ ⟨g, 1, none⟩ _ _ rfl (by kernel_rfl) (by rw [cell_of_row _ _ _ _ _ _ hv]; rfl) Tryd.underlying3 rfl) hr ?_
  refine dw_ready [8] (by kernel_rfl) (by simp) ?_
  refine ar_call 8 21 21 #[.string (strOfNums (l.drop (rn l true))), .bool false] rfl (fun _ => by kernel_rfl) (fun _ => by kernel_rfl) (R := RVl w3.drew (.int .i64 ((rn (l.drop (rn l true)) false : Nat) : Int))) (wrun (l := l.drop (rn l true)) (byt_nx hb).1 (by omega) false w3.drew) (fun u w' h9 => hr.go h9.2) ?_ ar_nil
  rintro _ w6 ⟨rfl, hb7⟩
  replace hT := hT.trans (Touch.of_below hb7)
  replace hr := hr.go hb7
  have by8 : Byt ((l.drop (rn l true)).take (rn (l.drop (rn l true)) false)) := (byt_take (byt_nx hb).1 _)
  refine dw_take 9 22 (.string (strOfNums ((l.drop (rn l true)).take (rn (l.drop (rn l true)) false)))) rfl (by kernel_rfl) (fun _ _ _ h => h) (fun _ => by kernel_rfl) (fun v hv => (fun _ => ol_sto _ _ (l.drop (rn l true)) (rn (l.drop (rn l true)) false) rfl Tryd.underlying9 (by kernel_rfl) (by kernel_rfl) (by omega))) hr ?_
  refine dw_take 14 4 (.string (strOfNums ((l.drop (rn l true)).take (rn (l.drop (rn l true)) false)))) rfl (by kernel_rfl) (fun _ _ _ h => h) (fun _ => by kernel_rfl) (fun v hv _ => by kernel_rfl) hr ?_
  refine dw_take 15 5 (.int .i64 ((p + rn l true : Nat) : Int)) rfl (by kernel_rfl) (fun _ _ _ h => h) (fun _ => by kernel_rfl) (fun v hv _ => by kernel_rfl) hr ?_
  refine dw_done (by kernel_rfl) ?_
  refine nw_then ?_
  refine cw_seq ?_
  refine cw_region ?_
  refine rw_p 27 (.pointer (some ⟨g, 0, none⟩)) (fun _ => by kernel_rfl) (fun _ => by kernel_rfl) ?_
  refine rw_p 28 (.string (strOfNums ((l.drop (rn l true)).take (rn (l.drop (rn l true)) false)))) (fun _ => by kernel_rfl) (fun _ => by kernel_rfl) ?_
  refine rw_p 29 (.int .i64 ((((l.drop (rn l true)).take (rn (l.drop (rn l true)) false)).length : Nat) : Int)) (fun _ => by kernel_rfl) (fun _ => ol_len9 _ ((l.drop (rn l true)).take (rn (l.drop (rn l true)) false)) rfl Tryd.underlying9 (by kernel_rfl)) ?_
  refine rw_call 30 20 #[.pointer (some ⟨g, 0, none⟩), .int .i64 ((((l.drop (rn l true)).take (rn (l.drop (rn l true)) false)).length : Nat) : Int)] (fun _ => by kernel_rfl) (fun _ => by kernel_rfl) (R := RTx g w6 ((l.drop (rn l true)).drop (((l.drop (rn l true)).take (rn (l.drop (rn l true)) false)).length)) (p + rn l true + ((l.drop (rn l true)).take (rn (l.drop (rn l true)) false)).length) (.tuple #[])) (wskip w6 hr (byt_nx hb).1 (by rw [List.length_take]; omega) (by omega)) ?_
  rintro _ w9 ⟨rfl, hr10, hk11⟩
  replace hT := hT.trans hk11
  clear hr; have hr := hr10
  refine rw_nil ?_
  refine nw_then ?_
  refine cw_seq ?_
  refine cw_region ?_
  refine rw_p 31 (.string (strOfNums ((l.drop (rn l true)).take (rn (l.drop (rn l true)) false)))) (fun _ => by kernel_rfl) (fun _ => by kernel_rfl) ?_
  refine rw_p 32 (.int .i64 ((p + rn l true : Nat) : Int)) (fun _ => by kernel_rfl) (fun _ => by kernel_rfl) ?_
  refine rw_p 2 (.string (strOfNums ((l.drop (rn l true)).take (rn (l.drop (rn l true)) false)))) (fun _ => by kernel_rfl) (fun _ => by kernel_rfl) ?_
  refine rw_p 3 (.int .i64 ((p + rn l true : Nat) : Int)) (fun _ => by kernel_rfl) (fun _ => by kernel_rfl) ?_
  refine rw_nil ?_
  refine nw_then ?_
  refine cw_ret ?_
  refine nw_ret_body (.tuple #[.string (strOfNums ((l.drop (rn l true)).take (rn (l.drop (rn l true)) false))), .int .i64 ((p + rn l true : Nat) : Int)]) (fun _ => by kernel_rfl) ?_
  have hq : (nxW l).length = ((l.drop (rn l true)).take (rn (l.drop (rn l true)) false)).length := rfl
  have hq2 : ((l.drop (rn l true)).take (rn (l.drop (rn l true)) false)).length = rn (l.drop (rn l true)) false := by rw [List.length_take]; omega
  rw [hq2] at hr
  refine ⟨_, rfl, rfl, ?_, hT⟩
  rw [hq, hq2]; exact hr
end Go.Proofs.YtbjjboicfghldabDoor

/- What the document's more, Of, Piece and Marks answer. -/
import Derived.Test.YtbjjboicfghldabDoorG29
namespace Go.Proofs.YtbjjboicfghldabDoor
open Go.RowKit
open Wo
set_option linter.unusedVariables false
set_option maxRecDepth 100000
theorem of_none {x : Int} (hp : ¬ (32 ≤ x ∧ x < 40)) (h : ∀ k ∈ ([0, 1, 2, 3, 4, 5, 6, 7, 8, 32, 48, 49, 50, 64, 65, 66, 80, 81, 96, 97, 98, 99, 100, 101, 102, 112, 113, 128, 129] : List Int), x ≠ k) : ofP x = none := by
  rw [of_not hp]
  have : fdP x = none := by
    unfold fdP
    rw [List.find?_eq_none]
    intro r hr
    have key : ∀ r ∈ tbl, (r.op : Int) ∈ ([0, 1, 2, 3, 4, 5, 6, 7, 8, 32, 48, 49, 50, 64, 65, 66, 80, 81, 96, 97, 98, 99, 100, 101, 102, 112, 113, 128, 129] : List Int) := by decide +kernel
    have := h _ (key r hr)
    simpa using fun e => this e.symm
  rw [this]
  rfl
theorem isP_no {x : Int} {r : List Int} (h : ofP x = none) : isP (x :: r) = false := by simp only [isP, h]
theorem isP_some {x : Int} {r : List Int} {o : Nf} (h : ofP x = some o) : isP (x :: r) = !decide (r.length < o.bh) := by simp only [isP, h]
set_option maxHeartbeats 4000000 in
theorem rmore {x : Int} (hx0 : 0 ≤ x) (hx1 : x < 256) (hp : ¬ (32 ≤ x ∧ x < 40)) (hn : x ≠ 0 ∧ x ≠ 1 ∧ x ≠ 2 ∧ x ≠ 3 ∧ x ≠ 4 ∧ x ≠ 5 ∧ x ≠ 6 ∧ x ≠ 7 ∧ x ≠ 8 ∧ x ≠ 48 ∧ x ≠ 49 ∧ x ≠ 50 ∧ x ≠ 64 ∧ x ≠ 65 ∧ x ≠ 66) (w : World) : Calls Tryd.prog 34 #[.int .u8 x] w fun e w' => ∃ v, e = .returned v ∧ RVl w (.tuple #[.agg (NfV ((ofP x).getD nf0)), .bool (ofP x).isSome]) v w' := by
  have hB : Bl w w := Bl.refl w
  refine cw_enter Tryd.func34 rfl 45 rfl ?_
  show CW _ _ _ _ _ _ _ [(0, .int .u8 x)] _
  refine cw_seq ?_
  refine cw_region ?_
  refine rw_new 2 (#[.string (strOfNums []), .int .i64 0, .int .i64 0, .int .i64 0, .int .u64 0]) 52 (fun _ => by kernel_rfl) (fun _ => by kernel_rfl) ?_
  intro w1 g2 hn3
  have hzg2 : w.heap.size ≤ g2 := by have := hB.size; have := hn3.hg; omega
  replace hB := hB.go hn3.below
  have hr4 : Rw g2 w1 (#[.string (strOfNums []), .int .i64 0, .int .i64 0, .int .i64 0, .int .u64 0]) 52 := hn3.row
  refine rw_p 3 (.bool false) (fun _ => by kernel_rfl) (fun _ => by kernel_rfl) ?_
  refine rw_nil ?_
  refine nw_then ?_
  refine cw_seq ?_
  refine cw_seq ?_
  refine cw_region ?_
  refine rw_p 4 (.int .u8 x) (fun _ => by kernel_rfl) (fun _ => by kernel_rfl) ?_
  refine rw_nil ?_
  refine nw_then ?_
  refine cw_block ?_
  refine cw_seq ?_
  refine cw_region ?_
  refine rw_p 6 (.bool ((x : Int) == (80 : Int))) (fun _ => by kernel_rfl) (fun _ => by kernel_rfl) ?_
  refine rw_p 5 (.bool ((x : Int) == (80 : Int))) (fun _ => by kernel_rfl) (fun _ => by kernel_rfl) ?_
  refine rw_nil ?_
  refine nw_then ?_
  cases hq5 : ((x : Int) == (80 : Int)) with
  | true =>
    have dhq5 := eq_of_beq hq5
    refine cw_cond_t (fun _ => by kernel_rfl) ?_
    refine cw_seq ?_
    refine cw_region ?_
    refine rw_p 7 (.agg #[.string (strOfNums ([108, 111, 97, 100])), .int .i64 0, .int .i64 1, .int .i64 1, .int .u64 10]) (fun _ => by kernel_rfl) (fun _ => by kernel_rfl) ?_
    refine rw_put g2 (#[.string (strOfNums ([108, 111, 97, 100])), .int .i64 0, .int .i64 1, .int .i64 1, .int .u64 10]) (fun _ => by kernel_rfl) (fun _ => ol_store 52 _ _ _ _ _ 52 rfl (by kernel_rfl) (by kernel_rfl) hr4 (by kernel_rfl) rfl (by kernel_rfl)) ?_
    intro w6 hp7
    replace hB := hB.put hp7 hzg2
    replace hr4 := hr4.put hp7
    refine rw_p 3 (.bool true) (fun _ => by kernel_rfl) (fun _ => by kernel_rfl) ?_
    refine rw_nil ?_
    refine nw_then ?_
    refine cw_ret ?_
    refine nw_ret_block ?_
    refine nw_ret_then ?_
    have e9 : x = 80 := eq_of_beq hq5
    subst e9
    refine nw_ret_body (.tuple #[.agg (#[.string (strOfNums ([108, 111, 97, 100])), .int .i64 0, .int .i64 1, .int .i64 1, .int .u64 10]), .bool true]) (fun _ => res_c2 rfl _ g2 _ _ (by kernel_rfl) (by kernel_rfl) hr4 Tryd.underlying52 rfl (by kernel_rfl)) ?_
    refine ⟨_, rfl, ?_, hB⟩
    rfl
  | false =>
    have dhq5 := ne_of_beq_false hq5
    refine cw_cond_f (fun _ => by kernel_rfl) ?_
    refine cw_seq ?_
    refine cw_region ?_
    refine rw_p 9 (.bool ((x : Int) == (81 : Int))) (fun _ => by kernel_rfl) (fun _ => by kernel_rfl) ?_
    refine rw_p 8 (.bool ((x : Int) == (81 : Int))) (fun _ => by kernel_rfl) (fun _ => by kernel_rfl) ?_
    refine rw_nil ?_
    refine nw_then ?_
    cases hq8 : ((x : Int) == (81 : Int)) with
    | true =>
      have dhq8 := eq_of_beq hq8
      refine cw_cond_t (fun _ => by kernel_rfl) ?_
      refine cw_seq ?_
      refine cw_region ?_
      refine rw_p 10 (.agg #[.string (strOfNums ([115, 116, 111, 114, 101])), .int .i64 0, .int .i64 2, .int .i64 0, .int .u64 20]) (fun _ => by kernel_rfl) (fun _ => by kernel_rfl) ?_
      refine rw_put g2 (#[.string (strOfNums ([115, 116, 111, 114, 101])), .int .i64 0, .int .i64 2, .int .i64 0, .int .u64 20]) (fun _ => by kernel_rfl) (fun _ => ol_store 52 _ _ _ _ _ 52 rfl (by kernel_rfl) (by kernel_rfl) hr4 (by kernel_rfl) rfl (by kernel_rfl)) ?_
      intro w9 hp10
      replace hB := hB.put hp10 hzg2
      replace hr4 := hr4.put hp10
      refine rw_p 3 (.bool true) (fun _ => by kernel_rfl) (fun _ => by kernel_rfl) ?_
      refine rw_nil ?_
      refine nw_then ?_
      refine cw_ret ?_
      refine nw_ret_block ?_
      refine nw_ret_then ?_
      have e9 : x = 81 := eq_of_beq hq8
      subst e9
      refine nw_ret_body (.tuple #[.agg (#[.string (strOfNums ([115, 116, 111, 114, 101])), .int .i64 0, .int .i64 2, .int .i64 0, .int .u64 20]), .bool true]) (fun _ => res_c2 rfl _ g2 _ _ (by kernel_rfl) (by kernel_rfl) hr4 Tryd.underlying52 rfl (by kernel_rfl)) ?_
      refine ⟨_, rfl, ?_, hB⟩
      rfl
    | false =>
      have dhq8 := ne_of_beq_false hq8
      refine cw_cond_f (fun _ => by kernel_rfl) ?_
      refine cw_seq ?_
      refine cw_region ?_
      refine rw_p 12 (.bool ((x : Int) == (96 : Int))) (fun _ => by kernel_rfl) (fun _ => by kernel_rfl) ?_
      refine rw_p 11 (.bool ((x : Int) == (96 : Int))) (fun _ => by kernel_rfl) (fun _ => by kernel_rfl) ?_
      refine rw_nil ?_
      refine nw_then ?_
      cases hq11 : ((x : Int) == (96 : Int)) with
      | true =>
        have dhq11 := eq_of_beq hq11
        refine cw_cond_t (fun _ => by kernel_rfl) ?_
        refine cw_seq ?_
        refine cw_region ?_
        refine rw_p 13 (.agg #[.string (strOfNums ([115, 101, 108, 102])), .int .i64 0, .int .i64 0, .int .i64 1, .int .u64 1]) (fun _ => by kernel_rfl) (fun _ => by kernel_rfl) ?_
        refine rw_put g2 (#[.string (strOfNums ([115, 101, 108, 102])), .int .i64 0, .int .i64 0, .int .i64 1, .int .u64 1]) (fun _ => by kernel_rfl) (fun _ => ol_store 52 _ _ _ _ _ 52 rfl (by kernel_rfl) (by kernel_rfl) hr4 (by kernel_rfl) rfl (by kernel_rfl)) ?_
        intro w12 hp13
        replace hB := hB.put hp13 hzg2
        replace hr4 := hr4.put hp13
        refine rw_p 3 (.bool true) (fun _ => by kernel_rfl) (fun _ => by kernel_rfl) ?_
        refine rw_nil ?_
        refine nw_then ?_
        refine cw_ret ?_
        refine nw_ret_block ?_
        refine nw_ret_then ?_
        have e9 : x = 96 := eq_of_beq hq11
        subst e9
        refine nw_ret_body (.tuple #[.agg (#[.string (strOfNums ([115, 101, 108, 102])), .int .i64 0, .int .i64 0, .int .i64 1, .int .u64 1]), .bool true]) (fun _ => res_c2 rfl _ g2 _ _ (by kernel_rfl) (by kernel_rfl) hr4 Tryd.underlying52 rfl (by kernel_rfl)) ?_
        refine ⟨_, rfl, ?_, hB⟩
        rfl
      | false =>
        have dhq11 := ne_of_beq_false hq11
        refine cw_cond_f (fun _ => by kernel_rfl) ?_
        refine cw_seq ?_
        refine cw_region ?_
        refine rw_p 15 (.bool ((x : Int) == (97 : Int))) (fun _ => by kernel_rfl) (fun _ => by kernel_rfl) ?_
        refine rw_p 14 (.bool ((x : Int) == (97 : Int))) (fun _ => by kernel_rfl) (fun _ => by kernel_rfl) ?_
        refine rw_nil ?_
        refine nw_then ?_
        cases hq14 : ((x : Int) == (97 : Int)) with
        | true =>
          have dhq14 := eq_of_beq hq14
          refine cw_cond_t (fun _ => by kernel_rfl) ?_
          refine cw_seq ?_
          refine cw_region ?_
          refine rw_p 16 (.agg #[.string (strOfNums ([99, 97, 108, 108, 101, 114])), .int .i64 0, .int .i64 0, .int .i64 1, .int .u64 1]) (fun _ => by kernel_rfl) (fun _ => by kernel_rfl) ?_
          refine rw_put g2 (#[.string (strOfNums ([99, 97, 108, 108, 101, 114])), .int .i64 0, .int .i64 0, .int .i64 1, .int .u64 1]) (fun _ => by kernel_rfl) (fun _ => ol_store 52 _ _ _ _ _ 52 rfl (by kernel_rfl) (by kernel_rfl) hr4 (by kernel_rfl) rfl (by kernel_rfl)) ?_
          intro w15 hp16
          replace hB := hB.put hp16 hzg2
          replace hr4 := hr4.put hp16
          refine rw_p 3 (.bool true) (fun _ => by kernel_rfl) (fun _ => by kernel_rfl) ?_
          refine rw_nil ?_
          refine nw_then ?_
          refine cw_ret ?_
          refine nw_ret_block ?_
          refine nw_ret_then ?_
          have e9 : x = 97 := eq_of_beq hq14
          subst e9
          refine nw_ret_body (.tuple #[.agg (#[.string (strOfNums ([99, 97, 108, 108, 101, 114])), .int .i64 0, .int .i64 0, .int .i64 1, .int .u64 1]), .bool true]) (fun _ => res_c2 rfl _ g2 _ _ (by kernel_rfl) (by kernel_rfl) hr4 Tryd.underlying52 rfl (by kernel_rfl)) ?_
          refine ⟨_, rfl, ?_, hB⟩
          rfl
        | false =>
          have dhq14 := ne_of_beq_false hq14
          refine cw_cond_f (fun _ => by kernel_rfl) ?_
          refine cw_seq ?_
          refine cw_region ?_
          refine rw_p 18 (.bool ((x : Int) == (98 : Int))) (fun _ => by kernel_rfl) (fun _ => by kernel_rfl) ?_
          refine rw_p 17 (.bool ((x : Int) == (98 : Int))) (fun _ => by kernel_rfl) (fun _ => by kernel_rfl) ?_
          refine rw_nil ?_
          refine nw_then ?_
          cases hq17 : ((x : Int) == (98 : Int)) with
          | true =>
            have dhq17 := eq_of_beq hq17
            refine cw_cond_t (fun _ => by kernel_rfl) ?_
            refine cw_seq ?_
            refine cw_region ?_
            refine rw_p 19 (.agg #[.string (strOfNums ([118, 97, 108, 117, 101])), .int .i64 0, .int .i64 0, .int .i64 1, .int .u64 1]) (fun _ => by kernel_rfl) (fun _ => by kernel_rfl) ?_
            refine rw_put g2 (#[.string (strOfNums ([118, 97, 108, 117, 101])), .int .i64 0, .int .i64 0, .int .i64 1, .int .u64 1]) (fun _ => by kernel_rfl) (fun _ => ol_store 52 _ _ _ _ _ 52 rfl (by kernel_rfl) (by kernel_rfl) hr4 (by kernel_rfl) rfl (by kernel_rfl)) ?_
            intro w18 hp19
            replace hB := hB.put hp19 hzg2
            replace hr4 := hr4.put hp19
            refine rw_p 3 (.bool true) (fun _ => by kernel_rfl) (fun _ => by kernel_rfl) ?_
            refine rw_nil ?_
            refine nw_then ?_
            refine cw_ret ?_
            refine nw_ret_block ?_
            refine nw_ret_then ?_
            have e9 : x = 98 := eq_of_beq hq17
            subst e9
            refine nw_ret_body (.tuple #[.agg (#[.string (strOfNums ([118, 97, 108, 117, 101])), .int .i64 0, .int .i64 0, .int .i64 1, .int .u64 1]), .bool true]) (fun _ => res_c2 rfl _ g2 _ _ (by kernel_rfl) (by kernel_rfl) hr4 Tryd.underlying52 rfl (by kernel_rfl)) ?_
            refine ⟨_, rfl, ?_, hB⟩
            rfl
          | false =>
            have dhq17 := ne_of_beq_false hq17
            refine cw_cond_f (fun _ => by kernel_rfl) ?_
            refine cw_seq ?_
            refine cw_region ?_
            refine rw_p 21 (.bool ((x : Int) == (99 : Int))) (fun _ => by kernel_rfl) (fun _ => by kernel_rfl) ?_
            refine rw_p 20 (.bool ((x : Int) == (99 : Int))) (fun _ => by kernel_rfl) (fun _ => by kernel_rfl) ?_
            refine rw_nil ?_
            refine nw_then ?_
            cases hq20 : ((x : Int) == (99 : Int)) with
            | true =>
              have dhq20 := eq_of_beq hq20
              refine cw_cond_t (fun _ => by kernel_rfl) ?_
              refine cw_seq ?_
              refine cw_region ?_
              refine rw_p 22 (.agg #[.string (strOfNums ([105, 110, 112, 117, 116])), .int .i64 0, .int .i64 1, .int .i64 1, .int .u64 1]) (fun _ => by kernel_rfl) (fun _ => by kernel_rfl) ?_
              refine rw_put g2 (#[.string (strOfNums ([105, 110, 112, 117, 116])), .int .i64 0, .int .i64 1, .int .i64 1, .int .u64 1]) (fun _ => by kernel_rfl) (fun _ => ol_store 52 _ _ _ _ _ 52 rfl (by kernel_rfl) (by kernel_rfl) hr4 (by kernel_rfl) rfl (by kernel_rfl)) ?_
              intro w21 hp22
              replace hB := hB.put hp22 hzg2
              replace hr4 := hr4.put hp22
              refine rw_p 3 (.bool true) (fun _ => by kernel_rfl) (fun _ => by kernel_rfl) ?_
              refine rw_nil ?_
              refine nw_then ?_
              refine cw_ret ?_
              refine nw_ret_block ?_
              refine nw_ret_then ?_
              have e9 : x = 99 := eq_of_beq hq20
              subst e9
              refine nw_ret_body (.tuple #[.agg (#[.string (strOfNums ([105, 110, 112, 117, 116])), .int .i64 0, .int .i64 1, .int .i64 1, .int .u64 1]), .bool true]) (fun _ => res_c2 rfl _ g2 _ _ (by kernel_rfl) (by kernel_rfl) hr4 Tryd.underlying52 rfl (by kernel_rfl)) ?_
              refine ⟨_, rfl, ?_, hB⟩
              rfl
            | false =>
              have dhq20 := ne_of_beq_false hq20
              refine cw_cond_f (fun _ => by kernel_rfl) ?_
              refine cw_seq ?_
              refine cw_region ?_
              refine rw_p 24 (.bool ((x : Int) == (100 : Int))) (fun _ => by kernel_rfl) (fun _ => by kernel_rfl) ?_
              refine rw_p 23 (.bool ((x : Int) == (100 : Int))) (fun _ => by kernel_rfl) (fun _ => by kernel_rfl) ?_
              refine rw_nil ?_
              refine nw_then ?_
              cases hq23 : ((x : Int) == (100 : Int)) with
              | true =>
                have dhq23 := eq_of_beq hq23
                refine cw_cond_t (fun _ => by kernel_rfl) ?_
                refine cw_seq ?_
                refine cw_region ?_
                refine rw_p 25 (.agg #[.string (strOfNums ([98, 97, 108, 97, 110, 99, 101])), .int .i64 0, .int .i64 1, .int .i64 1, .int .u64 8]) (fun _ => by kernel_rfl) (fun _ => by kernel_rfl) ?_
                refine rw_put g2 (#[.string (strOfNums ([98, 97, 108, 97, 110, 99, 101])), .int .i64 0, .int .i64 1, .int .i64 1, .int .u64 8]) (fun _ => by kernel_rfl) (fun _ => ol_store 52 _ _ _ _ _ 52 rfl (by kernel_rfl) (by kernel_rfl) hr4 (by kernel_rfl) rfl (by kernel_rfl)) ?_
                intro w24 hp25
                replace hB := hB.put hp25 hzg2
                replace hr4 := hr4.put hp25
                refine rw_p 3 (.bool true) (fun _ => by kernel_rfl) (fun _ => by kernel_rfl) ?_
                refine rw_nil ?_
                refine nw_then ?_
                refine cw_ret ?_
                refine nw_ret_block ?_
                refine nw_ret_then ?_
                have e9 : x = 100 := eq_of_beq hq23
                subst e9
                refine nw_ret_body (.tuple #[.agg (#[.string (strOfNums ([98, 97, 108, 97, 110, 99, 101])), .int .i64 0, .int .i64 1, .int .i64 1, .int .u64 8]), .bool true]) (fun _ => res_c2 rfl _ g2 _ _ (by kernel_rfl) (by kernel_rfl) hr4 Tryd.underlying52 rfl (by kernel_rfl)) ?_
                refine ⟨_, rfl, ?_, hB⟩
                rfl
              | false =>
                have dhq23 := ne_of_beq_false hq23
                refine cw_cond_f (fun _ => by kernel_rfl) ?_
                refine cw_seq ?_
                refine cw_region ?_
                refine rw_p 27 (.bool ((x : Int) == (101 : Int))) (fun _ => by kernel_rfl) (fun _ => by kernel_rfl) ?_
                refine rw_p 26 (.bool ((x : Int) == (101 : Int))) (fun _ => by kernel_rfl) (fun _ => by kernel_rfl) ?_
                refine rw_nil ?_
                refine nw_then ?_
                cases hq26 : ((x : Int) == (101 : Int)) with
                | true =>
                  have dhq26 := eq_of_beq hq26
                  refine cw_cond_t (fun _ => by kernel_rfl) ?_
                  refine cw_seq ?_
                  refine cw_region ?_
                  refine rw_p 28 (.agg #[.string (strOfNums ([103, 97, 115])), .int .i64 0, .int .i64 0, .int .i64 1, .int .u64 1]) (fun _ => by kernel_rfl) (fun _ => by kernel_rfl) ?_
                  refine rw_put g2 (#[.string (strOfNums ([103, 97, 115])), .int .i64 0, .int .i64 0, .int .i64 1, .int .u64 1]) (fun _ => by kernel_rfl) (fun _ => ol_store 52 _ _ _ _ _ 52 rfl (by kernel_rfl) (by kernel_rfl) hr4 (by kernel_rfl) rfl (by kernel_rfl)) ?_
                  intro w27 hp28
                  replace hB := hB.put hp28 hzg2
                  replace hr4 := hr4.put hp28
                  refine rw_p 3 (.bool true) (fun _ => by kernel_rfl) (fun _ => by kernel_rfl) ?_
                  refine rw_nil ?_
                  refine nw_then ?_
                  refine cw_ret ?_
                  refine nw_ret_block ?_
                  refine nw_ret_then ?_
                  have e9 : x = 101 := eq_of_beq hq26
                  subst e9
                  refine nw_ret_body (.tuple #[.agg (#[.string (strOfNums ([103, 97, 115])), .int .i64 0, .int .i64 0, .int .i64 1, .int .u64 1]), .bool true]) (fun _ => res_c2 rfl _ g2 _ _ (by kernel_rfl) (by kernel_rfl) hr4 Tryd.underlying52 rfl (by kernel_rfl)) ?_
                  refine ⟨_, rfl, ?_, hB⟩
                  rfl
                | false =>
                  have dhq26 := ne_of_beq_false hq26
                  refine cw_cond_f (fun _ => by kernel_rfl) ?_
                  refine cw_seq ?_
                  refine cw_region ?_
                  refine rw_p 30 (.bool ((x : Int) == (102 : Int))) (fun _ => by kernel_rfl) (fun _ => by kernel_rfl) ?_
                  refine rw_p 29 (.bool ((x : Int) == (102 : Int))) (fun _ => by kernel_rfl) (fun _ => by kernel_rfl) ?_
                  refine rw_nil ?_
                  refine nw_then ?_
                  cases hq29 : ((x : Int) == (102 : Int)) with
                  | true =>
                    have dhq29 := eq_of_beq hq29
                    refine cw_cond_t (fun _ => by kernel_rfl) ?_
                    refine cw_seq ?_
                    refine cw_region ?_
                    refine rw_p 31 (.agg #[.string (strOfNums ([110, 117, 109, 98, 101, 114])), .int .i64 0, .int .i64 0, .int .i64 1, .int .u64 1]) (fun _ => by kernel_rfl) (fun _ => by kernel_rfl) ?_
                    refine rw_put g2 (#[.string (strOfNums ([110, 117, 109, 98, 101, 114])), .int .i64 0, .int .i64 0, .int .i64 1, .int .u64 1]) (fun _ => by kernel_rfl) (fun _ => ol_store 52 _ _ _ _ _ 52 rfl (by kernel_rfl) (by kernel_rfl) hr4 (by kernel_rfl) rfl (by kernel_rfl)) ?_
                    intro w30 hp31
                    replace hB := hB.put hp31 hzg2
                    replace hr4 := hr4.put hp31
                    refine rw_p 3 (.bool true) (fun _ => by kernel_rfl) (fun _ => by kernel_rfl) ?_
                    refine rw_nil ?_
                    refine nw_then ?_
                    refine cw_ret ?_
                    refine nw_ret_block ?_
                    refine nw_ret_then ?_
                    have e9 : x = 102 := eq_of_beq hq29
                    subst e9
                    refine nw_ret_body (.tuple #[.agg (#[.string (strOfNums ([110, 117, 109, 98, 101, 114])), .int .i64 0, .int .i64 0, .int .i64 1, .int .u64 1]), .bool true]) (fun _ => res_c2 rfl _ g2 _ _ (by kernel_rfl) (by kernel_rfl) hr4 Tryd.underlying52 rfl (by kernel_rfl)) ?_
                    refine ⟨_, rfl, ?_, hB⟩
                    rfl
                  | false =>
                    have dhq29 := ne_of_beq_false hq29
                    refine cw_cond_f (fun _ => by kernel_rfl) ?_
                    refine cw_seq ?_
                    refine cw_region ?_
                    refine rw_p 33 (.bool ((x : Int) == (112 : Int))) (fun _ => by kernel_rfl) (fun _ => by kernel_rfl) ?_
                    refine rw_p 32 (.bool ((x : Int) == (112 : Int))) (fun _ => by kernel_rfl) (fun _ => by kernel_rfl) ?_
                    refine rw_nil ?_
                    refine nw_then ?_
                    cases hq32 : ((x : Int) == (112 : Int)) with
                    | true =>
                      have dhq32 := eq_of_beq hq32
                      refine cw_cond_t (fun _ => by kernel_rfl) ?_
                      refine cw_seq ?_
                      refine cw_region ?_
                      refine rw_p 34 (.agg #[.string (strOfNums ([99, 97, 108, 108])), .int .i64 0, .int .i64 4, .int .i64 1, .int .u64 40]) (fun _ => by kernel_rfl) (fun _ => by kernel_rfl) ?_
                      refine rw_put g2 (#[.string (strOfNums ([99, 97, 108, 108])), .int .i64 0, .int .i64 4, .int .i64 1, .int .u64 40]) (fun _ => by kernel_rfl) (fun _ => ol_store 52 _ _ _ _ _ 52 rfl (by kernel_rfl) (by kernel_rfl) hr4 (by kernel_rfl) rfl (by kernel_rfl)) ?_
                      intro w33 hp34
                      replace hB := hB.put hp34 hzg2
                      replace hr4 := hr4.put hp34
                      refine rw_p 3 (.bool true) (fun _ => by kernel_rfl) (fun _ => by kernel_rfl) ?_
                      refine rw_nil ?_
                      refine nw_then ?_
                      refine cw_ret ?_
                      refine nw_ret_block ?_
                      refine nw_ret_then ?_
                      have e9 : x = 112 := eq_of_beq hq32
                      subst e9
                      refine nw_ret_body (.tuple #[.agg (#[.string (strOfNums ([99, 97, 108, 108])), .int .i64 0, .int .i64 4, .int .i64 1, .int .u64 40]), .bool true]) (fun _ => res_c2 rfl _ g2 _ _ (by kernel_rfl) (by kernel_rfl) hr4 Tryd.underlying52 rfl (by kernel_rfl)) ?_
                      refine ⟨_, rfl, ?_, hB⟩
                      rfl
                    | false =>
                      have dhq32 := ne_of_beq_false hq32
                      refine cw_cond_f (fun _ => by kernel_rfl) ?_
                      refine cw_seq ?_
                      refine cw_region ?_
                      refine rw_p 36 (.bool ((x : Int) == (113 : Int))) (fun _ => by kernel_rfl) (fun _ => by kernel_rfl) ?_
                      refine rw_p 35 (.bool ((x : Int) == (113 : Int))) (fun _ => by kernel_rfl) (fun _ => by kernel_rfl) ?_
                      refine rw_nil ?_
                      refine nw_then ?_
                      cases hq35 : ((x : Int) == (113 : Int)) with
                      | true =>
                        have dhq35 := eq_of_beq hq35
                        refine cw_cond_t (fun _ => by kernel_rfl) ?_
                        refine cw_seq ?_
                        refine cw_region ?_
                        refine rw_p 37 (.agg #[.string (strOfNums ([114, 101, 115, 117, 108, 116])), .int .i64 0, .int .i64 0, .int .i64 1, .int .u64 1]) (fun _ => by kernel_rfl) (fun _ => by kernel_rfl) ?_
                        refine rw_put g2 (#[.string (strOfNums ([114, 101, 115, 117, 108, 116])), .int .i64 0, .int .i64 0, .int .i64 1, .int .u64 1]) (fun _ => by kernel_rfl) (fun _ => ol_store 52 _ _ _ _ _ 52 rfl (by kernel_rfl) (by kernel_rfl) hr4 (by kernel_rfl) rfl (by kernel_rfl)) ?_
                        intro w36 hp37
                        replace hB := hB.put hp37 hzg2
                        replace hr4 := hr4.put hp37
                        refine rw_p 3 (.bool true) (fun _ => by kernel_rfl) (fun _ => by kernel_rfl) ?_
                        refine rw_nil ?_
                        refine nw_then ?_
                        refine cw_ret ?_
                        refine nw_ret_block ?_
                        refine nw_ret_then ?_
                        have e9 : x = 113 := eq_of_beq hq35
                        subst e9
                        refine nw_ret_body (.tuple #[.agg (#[.string (strOfNums ([114, 101, 115, 117, 108, 116])), .int .i64 0, .int .i64 0, .int .i64 1, .int .u64 1]), .bool true]) (fun _ => res_c2 rfl _ g2 _ _ (by kernel_rfl) (by kernel_rfl) hr4 Tryd.underlying52 rfl (by kernel_rfl)) ?_
                        refine ⟨_, rfl, ?_, hB⟩
                        rfl
                      | false =>
                        have dhq35 := ne_of_beq_false hq35
                        refine cw_cond_f (fun _ => by kernel_rfl) ?_
                        refine cw_seq ?_
                        refine cw_region ?_
                        refine rw_p 39 (.bool ((x : Int) == (128 : Int))) (fun _ => by kernel_rfl) (fun _ => by kernel_rfl) ?_
                        refine rw_p 38 (.bool ((x : Int) == (128 : Int))) (fun _ => by kernel_rfl) (fun _ => by kernel_rfl) ?_
                        refine rw_nil ?_
                        refine nw_then ?_
                        cases hq38 : ((x : Int) == (128 : Int)) with
                        | true =>
                          have dhq38 := eq_of_beq hq38
                          refine cw_cond_t (fun _ => by kernel_rfl) ?_
                          refine cw_seq ?_
                          refine cw_region ?_
                          refine rw_p 40 (.agg #[.string (strOfNums ([114, 101, 116, 117, 114, 110])), .int .i64 0, .int .i64 1, .int .i64 0, .int .u64 0]) (fun _ => by kernel_rfl) (fun _ => by kernel_rfl) ?_
                          refine rw_put g2 (#[.string (strOfNums ([114, 101, 116, 117, 114, 110])), .int .i64 0, .int .i64 1, .int .i64 0, .int .u64 0]) (fun _ => by kernel_rfl) (fun _ => ol_store 52 _ _ _ _ _ 52 rfl (by kernel_rfl) (by kernel_rfl) hr4 (by kernel_rfl) rfl (by kernel_rfl)) ?_
                          intro w39 hp40
                          replace hB := hB.put hp40 hzg2
                          replace hr4 := hr4.put hp40
                          refine rw_p 3 (.bool true) (fun _ => by kernel_rfl) (fun _ => by kernel_rfl) ?_
                          refine rw_nil ?_
                          refine nw_then ?_
                          refine cw_ret ?_
                          refine nw_ret_block ?_
                          refine nw_ret_then ?_
                          have e9 : x = 128 := eq_of_beq hq38
                          subst e9
                          refine nw_ret_body (.tuple #[.agg (#[.string (strOfNums ([114, 101, 116, 117, 114, 110])), .int .i64 0, .int .i64 1, .int .i64 0, .int .u64 0]), .bool true]) (fun _ => res_c2 rfl _ g2 _ _ (by kernel_rfl) (by kernel_rfl) hr4 Tryd.underlying52 rfl (by kernel_rfl)) ?_
                          refine ⟨_, rfl, ?_, hB⟩
                          rfl
                        | false =>
                          have dhq38 := ne_of_beq_false hq38
                          refine cw_cond_f (fun _ => by kernel_rfl) ?_
                          refine cw_seq ?_
                          refine cw_region ?_
                          refine rw_p 42 (.bool ((x : Int) == (129 : Int))) (fun _ => by kernel_rfl) (fun _ => by kernel_rfl) ?_
                          refine rw_p 41 (.bool ((x : Int) == (129 : Int))) (fun _ => by kernel_rfl) (fun _ => by kernel_rfl) ?_
                          refine rw_nil ?_
                          refine nw_then ?_
                          cases hq41 : ((x : Int) == (129 : Int)) with
                          | true =>
                            have dhq41 := eq_of_beq hq41
                            refine cw_cond_t (fun _ => by kernel_rfl) ?_
                            refine cw_seq ?_
                            refine cw_region ?_
                            refine rw_p 43 (.agg #[.string (strOfNums ([114, 101, 118, 101, 114, 116])), .int .i64 0, .int .i64 1, .int .i64 0, .int .u64 0]) (fun _ => by kernel_rfl) (fun _ => by kernel_rfl) ?_
                            refine rw_put g2 (#[.string (strOfNums ([114, 101, 118, 101, 114, 116])), .int .i64 0, .int .i64 1, .int .i64 0, .int .u64 0]) (fun _ => by kernel_rfl) (fun _ => ol_store 52 _ _ _ _ _ 52 rfl (by kernel_rfl) (by kernel_rfl) hr4 (by kernel_rfl) rfl (by kernel_rfl)) ?_
                            intro w42 hp43
                            replace hB := hB.put hp43 hzg2
                            replace hr4 := hr4.put hp43
                            refine rw_p 3 (.bool true) (fun _ => by kernel_rfl) (fun _ => by kernel_rfl) ?_
                            refine rw_nil ?_
                            refine nw_then ?_
                            refine cw_ret ?_
                            refine nw_ret_block ?_
                            refine nw_ret_then ?_
                            have e9 : x = 129 := eq_of_beq hq41
                            subst e9
                            refine nw_ret_body (.tuple #[.agg (#[.string (strOfNums ([114, 101, 118, 101, 114, 116])), .int .i64 0, .int .i64 1, .int .i64 0, .int .u64 0]), .bool true]) (fun _ => res_c2 rfl _ g2 _ _ (by kernel_rfl) (by kernel_rfl) hr4 Tryd.underlying52 rfl (by kernel_rfl)) ?_
                            refine ⟨_, rfl, ?_, hB⟩
                            rfl
                          | false =>
                            have dhq41 := ne_of_beq_false hq41
                            refine cw_cond_f (fun _ => by kernel_rfl) ?_
                            refine cw_skip ?_
                            refine nw_block ?_
                            refine nw_then ?_
                            refine cw_seq ?_
                            refine cw_region ?_
                            refine rw_p 44 (.agg #[.string (strOfNums []), .int .i64 0, .int .i64 0, .int .i64 0, .int .u64 0]) (fun _ => by kernel_rfl) (fun _ => by kernel_rfl) ?_
                            refine rw_put g2 (#[.string (strOfNums []), .int .i64 0, .int .i64 0, .int .i64 0, .int .u64 0]) (fun _ => by kernel_rfl) (fun _ => ol_store 52 _ _ _ _ _ 52 rfl (by kernel_rfl) (by kernel_rfl) hr4 (by kernel_rfl) rfl (by kernel_rfl)) ?_
                            intro w44 hp45
                            replace hB := hB.put hp45 hzg2
                            replace hr4 := hr4.put hp45
                            refine rw_p 3 (.bool false) (fun _ => by kernel_rfl) (fun _ => by kernel_rfl) ?_
                            refine rw_nil ?_
                            refine nw_then ?_
                            refine cw_ret ?_
                            have hno : ofP x = none := of_none hp (by simp; omega)
                            rw [hno]
                            refine nw_ret_body (.tuple #[.agg (#[.string (strOfNums []), .int .i64 0, .int .i64 0, .int .i64 0, .int .u64 0]), .bool false]) (fun _ => res_c2 rfl _ g2 _ _ (by kernel_rfl) (by kernel_rfl) hr4 Tryd.underlying52 rfl (by kernel_rfl)) ?_
                            refine ⟨_, rfl, ?_, hB⟩
                            rfl
set_option maxHeartbeats 4000000 in
theorem rof {x : Int} (hx0 : 0 ≤ x) (hx1 : x < 256)   (w : World) : Calls Tryd.prog 19 #[.int .u8 x] w fun e w' => ∃ v, e = .returned v ∧ RVl w (.tuple #[.agg (NfV ((ofP x).getD nf0)), .bool (ofP x).isSome]) v w' := by
  have hB : Bl w w := Bl.refl w
  refine cw_enter Tryd.func19 rfl 65 rfl ?_
  show CW _ _ _ _ _ _ _ [(0, .int .u8 x)] _
  refine cw_seq ?_
  refine cw_region ?_
  refine rw_new 2 (#[.string (strOfNums []), .int .i64 0, .int .i64 0, .int .i64 0, .int .u64 0]) 52 (fun _ => by kernel_rfl) (fun _ => by kernel_rfl) ?_
  intro w1 g2 hn3
  have hzg2 : w.heap.size ≤ g2 := by have := hB.size; have := hn3.hg; omega
  replace hB := hB.go hn3.below
  have hr4 : Rw g2 w1 (#[.string (strOfNums []), .int .i64 0, .int .i64 0, .int .i64 0, .int .u64 0]) 52 := hn3.row
  refine rw_p 3 (.bool false) (fun _ => by kernel_rfl) (fun _ => by kernel_rfl) ?_
  refine rw_nil ?_
  refine nw_then ?_
  refine cw_seq ?_
  refine cw_seq ?_
  refine cw_region ?_
  refine rw_p 4 (.int .u8 x) (fun _ => by kernel_rfl) (fun _ => by kernel_rfl) ?_
  refine rw_p 5 (.bool (decide ((x : Int) ≥ (32 : Int)))) (fun _ => by kernel_rfl) (fun _ => by kernel_rfl) ?_
  refine rw_p 6 (.bool (decide ((x : Int) ≥ (32 : Int)))) (fun _ => by kernel_rfl) (fun _ => by kernel_rfl) ?_
  cases hq5 : (decide ((x : Int) ≥ (32 : Int))) with
  | true =>
    have dhq5 := of_decide_eq_true hq5
    refine rw_p 7 (.int .u8 x) (fun _ => by kernel_rfl) (fun _ => by kernel_rfl) ?_
    refine rw_p 8 (.bool (decide ((x : Int) ≤ (39 : Int)))) (fun _ => by kernel_rfl) (fun _ => by kernel_rfl) ?_
    refine rw_p 9 (.bool (decide ((x : Int) ≤ (39 : Int)))) (fun _ => by kernel_rfl) (fun _ => by kernel_rfl) ?_
    refine rw_nil ?_
    refine nw_then ?_
    cases hq6 : (decide ((x : Int) ≤ (39 : Int))) with
    | true =>
      have dhq6 := of_decide_eq_true hq6
      refine cw_cond_t (fun _ => by kernel_rfl) ?_
      refine cw_seq ?_
      refine cw_region ?_
      refine rw_p 10 (.int .u8 x) (fun _ => by kernel_rfl) (fun _ => by kernel_rfl) ?_
      refine rw_p 11 (.int .i64 x) (fun _ => by kernel_rfl) (fun _ => ol_cv 5 3 .u8 .i64 _ x x rfl Tryd.underlying5 Tryd.underlying3 (by kernel_rfl) (wrapI (by right; right; exact ⟨rfl, by omega, by omega⟩))) ?_
      refine rw_p 12 (.int .i64 ((x : Int) - 32)) (fun _ => by kernel_rfl) (fun _ => ol_conv (v := .int .i64 (IntKind.i64.wrap ((x : Int) - 32))) (by kernel_rfl) (congrArg (Value.int .i64) (wrap64 (by omega) (by omega)))) ?_
      refine rw_p 13 (.int .i64 (((x : Int) - 32 : Int) + 1)) (fun _ => by kernel_rfl) (fun _ => ol_conv (v := .int .i64 (IntKind.i64.wrap (((x : Int) - 32 : Int) + 1))) (by kernel_rfl) (congrArg (Value.int .i64) (wrap64 (by omega) (by omega)))) ?_
      refine rw_p 14 (.agg #[.string (strOfNums pushW), .int .i64 (((x : Int) - 32 : Int) + 1), .int .i64 0, .int .i64 1, .int .u64 1]) (fun _ => by kernel_rfl) (fun _ => by kernel_rfl) ?_
      refine rw_put g2 (#[.string (strOfNums pushW), .int .i64 (((x : Int) - 32 : Int) + 1), .int .i64 0, .int .i64 1, .int .u64 1]) (fun _ => by kernel_rfl) (fun _ => ol_store 52 _ _ _ _ _ 52 rfl (by kernel_rfl) (by kernel_rfl) hr4 (by kernel_rfl) rfl (by kernel_rfl)) ?_
      intro w7 hp8
      replace hB := hB.put hp8 hzg2
      replace hr4 := hr4.put hp8
      refine rw_p 3 (.bool true) (fun _ => by kernel_rfl) (fun _ => by kernel_rfl) ?_
      refine rw_nil ?_
      refine nw_then ?_
      refine cw_ret ?_
      refine nw_ret_then ?_
      rw [of_push (x := x) (by omega)]
      refine nw_ret_body (.tuple #[.agg (#[.string (strOfNums pushW), .int .i64 (((x : Int) - 32 : Int) + 1), .int .i64 0, .int .i64 1, .int .u64 1]), .bool true]) (fun _ => res_c2 rfl _ g2 _ _ (by kernel_rfl) (by kernel_rfl) hr4 Tryd.underlying52 rfl (by kernel_rfl)) ?_
      refine ⟨_, rfl, ?_, hB⟩
      unfold NfV; simp [pushW]; omega
    | false =>
      have dhq6 := of_decide_eq_false hq6
      refine cw_cond_f (fun _ => by kernel_rfl) ?_
      refine cw_skip ?_
      refine nw_then ?_
      refine cw_seq ?_
      refine cw_seq ?_
      refine cw_region ?_
      refine rw_p 15 (.int .u8 x) (fun _ => by kernel_rfl) (fun _ => by kernel_rfl) ?_
      refine rw_nil ?_
      refine nw_then ?_
      refine cw_block ?_
      refine cw_seq ?_
      refine cw_region ?_
      refine rw_p 17 (.bool ((x : Int) == (0 : Int))) (fun _ => by kernel_rfl) (fun _ => by kernel_rfl) ?_
      refine rw_p 16 (.bool ((x : Int) == (0 : Int))) (fun _ => by kernel_rfl) (fun _ => by kernel_rfl) ?_
      refine rw_nil ?_
      refine nw_then ?_
      cases hq9 : ((x : Int) == (0 : Int)) with
      | true =>
        have dhq9 := eq_of_beq hq9
        refine cw_cond_t (fun _ => by kernel_rfl) ?_
        refine cw_seq ?_
        refine cw_region ?_
        refine rw_p 18 (.agg #[.string (strOfNums ([115, 116, 111, 112])), .int .i64 0, .int .i64 0, .int .i64 0, .int .u64 0]) (fun _ => by kernel_rfl) (fun _ => by kernel_rfl) ?_
        refine rw_put g2 (#[.string (strOfNums ([115, 116, 111, 112])), .int .i64 0, .int .i64 0, .int .i64 0, .int .u64 0]) (fun _ => by kernel_rfl) (fun _ => ol_store 52 _ _ _ _ _ 52 rfl (by kernel_rfl) (by kernel_rfl) hr4 (by kernel_rfl) rfl (by kernel_rfl)) ?_
        intro w10 hp11
        replace hB := hB.put hp11 hzg2
        replace hr4 := hr4.put hp11
        refine rw_p 3 (.bool true) (fun _ => by kernel_rfl) (fun _ => by kernel_rfl) ?_
        refine rw_nil ?_
        refine nw_then ?_
        refine cw_ret ?_
        refine nw_ret_block ?_
        refine nw_ret_then ?_
        have e9 : x = 0 := eq_of_beq hq9
        subst e9
        refine nw_ret_body (.tuple #[.agg (#[.string (strOfNums ([115, 116, 111, 112])), .int .i64 0, .int .i64 0, .int .i64 0, .int .u64 0]), .bool true]) (fun _ => res_c2 rfl _ g2 _ _ (by kernel_rfl) (by kernel_rfl) hr4 Tryd.underlying52 rfl (by kernel_rfl)) ?_
        refine ⟨_, rfl, ?_, hB⟩
        rfl
      | false =>
        have dhq9 := ne_of_beq_false hq9
        refine cw_cond_f (fun _ => by kernel_rfl) ?_
        refine cw_seq ?_
        refine cw_region ?_
        refine rw_p 20 (.bool ((x : Int) == (1 : Int))) (fun _ => by kernel_rfl) (fun _ => by kernel_rfl) ?_
        refine rw_p 19 (.bool ((x : Int) == (1 : Int))) (fun _ => by kernel_rfl) (fun _ => by kernel_rfl) ?_
        refine rw_nil ?_
        refine nw_then ?_
        cases hq12 : ((x : Int) == (1 : Int)) with
        | true =>
          have dhq12 := eq_of_beq hq12
          refine cw_cond_t (fun _ => by kernel_rfl) ?_
          refine cw_seq ?_
          refine cw_region ?_
          refine rw_p 21 (.agg #[.string (strOfNums ([97, 100, 100])), .int .i64 0, .int .i64 2, .int .i64 1, .int .u64 1]) (fun _ => by kernel_rfl) (fun _ => by kernel_rfl) ?_
          refine rw_put g2 (#[.string (strOfNums ([97, 100, 100])), .int .i64 0, .int .i64 2, .int .i64 1, .int .u64 1]) (fun _ => by kernel_rfl) (fun _ => ol_store 52 _ _ _ _ _ 52 rfl (by kernel_rfl) (by kernel_rfl) hr4 (by kernel_rfl) rfl (by kernel_rfl)) ?_
          intro w13 hp14
          replace hB := hB.put hp14 hzg2
          replace hr4 := hr4.put hp14
          refine rw_p 3 (.bool true) (fun _ => by kernel_rfl) (fun _ => by kernel_rfl) ?_
          refine rw_nil ?_
          refine nw_then ?_
          refine cw_ret ?_
          refine nw_ret_block ?_
          refine nw_ret_then ?_
          have e9 : x = 1 := eq_of_beq hq12
          subst e9
          refine nw_ret_body (.tuple #[.agg (#[.string (strOfNums ([97, 100, 100])), .int .i64 0, .int .i64 2, .int .i64 1, .int .u64 1]), .bool true]) (fun _ => res_c2 rfl _ g2 _ _ (by kernel_rfl) (by kernel_rfl) hr4 Tryd.underlying52 rfl (by kernel_rfl)) ?_
          refine ⟨_, rfl, ?_, hB⟩
          rfl
        | false =>
          have dhq12 := ne_of_beq_false hq12
          refine cw_cond_f (fun _ => by kernel_rfl) ?_
          refine cw_seq ?_
          refine cw_region ?_
          refine rw_p 23 (.bool ((x : Int) == (2 : Int))) (fun _ => by kernel_rfl) (fun _ => by kernel_rfl) ?_
          refine rw_p 22 (.bool ((x : Int) == (2 : Int))) (fun _ => by kernel_rfl) (fun _ => by kernel_rfl) ?_
          refine rw_nil ?_
          refine nw_then ?_
          cases hq15 : ((x : Int) == (2 : Int)) with
          | true =>
            have dhq15 := eq_of_beq hq15
            refine cw_cond_t (fun _ => by kernel_rfl) ?_
            refine cw_seq ?_
            refine cw_region ?_
            refine rw_p 24 (.agg #[.string (strOfNums ([115, 117, 98])), .int .i64 0, .int .i64 2, .int .i64 1, .int .u64 1]) (fun _ => by kernel_rfl) (fun _ => by kernel_rfl) ?_
            refine rw_put g2 (#[.string (strOfNums ([115, 117, 98])), .int .i64 0, .int .i64 2, .int .i64 1, .int .u64 1]) (fun _ => by kernel_rfl) (fun _ => ol_store 52 _ _ _ _ _ 52 rfl (by kernel_rfl) (by kernel_rfl) hr4 (by kernel_rfl) rfl (by kernel_rfl)) ?_
            intro w16 hp17
            replace hB := hB.put hp17 hzg2
            replace hr4 := hr4.put hp17
            refine rw_p 3 (.bool true) (fun _ => by kernel_rfl) (fun _ => by kernel_rfl) ?_
            refine rw_nil ?_
            refine nw_then ?_
            refine cw_ret ?_
            refine nw_ret_block ?_
            refine nw_ret_then ?_
            have e9 : x = 2 := eq_of_beq hq15
            subst e9
            refine nw_ret_body (.tuple #[.agg (#[.string (strOfNums ([115, 117, 98])), .int .i64 0, .int .i64 2, .int .i64 1, .int .u64 1]), .bool true]) (fun _ => res_c2 rfl _ g2 _ _ (by kernel_rfl) (by kernel_rfl) hr4 Tryd.underlying52 rfl (by kernel_rfl)) ?_
            refine ⟨_, rfl, ?_, hB⟩
            rfl
          | false =>
            have dhq15 := ne_of_beq_false hq15
            refine cw_cond_f (fun _ => by kernel_rfl) ?_
            refine cw_seq ?_
            refine cw_region ?_
            refine rw_p 26 (.bool ((x : Int) == (3 : Int))) (fun _ => by kernel_rfl) (fun _ => by kernel_rfl) ?_
            refine rw_p 25 (.bool ((x : Int) == (3 : Int))) (fun _ => by kernel_rfl) (fun _ => by kernel_rfl) ?_
            refine rw_nil ?_
            refine nw_then ?_
            cases hq18 : ((x : Int) == (3 : Int)) with
            | true =>
              have dhq18 := eq_of_beq hq18
              refine cw_cond_t (fun _ => by kernel_rfl) ?_
              refine cw_seq ?_
              refine cw_region ?_
              refine rw_p 27 (.agg #[.string (strOfNums ([109, 117, 108])), .int .i64 0, .int .i64 2, .int .i64 1, .int .u64 2]) (fun _ => by kernel_rfl) (fun _ => by kernel_rfl) ?_
              refine rw_put g2 (#[.string (strOfNums ([109, 117, 108])), .int .i64 0, .int .i64 2, .int .i64 1, .int .u64 2]) (fun _ => by kernel_rfl) (fun _ => ol_store 52 _ _ _ _ _ 52 rfl (by kernel_rfl) (by kernel_rfl) hr4 (by kernel_rfl) rfl (by kernel_rfl)) ?_
              intro w19 hp20
              replace hB := hB.put hp20 hzg2
              replace hr4 := hr4.put hp20
              refine rw_p 3 (.bool true) (fun _ => by kernel_rfl) (fun _ => by kernel_rfl) ?_
              refine rw_nil ?_
              refine nw_then ?_
              refine cw_ret ?_
              refine nw_ret_block ?_
              refine nw_ret_then ?_
              have e9 : x = 3 := eq_of_beq hq18
              subst e9
              refine nw_ret_body (.tuple #[.agg (#[.string (strOfNums ([109, 117, 108])), .int .i64 0, .int .i64 2, .int .i64 1, .int .u64 2]), .bool true]) (fun _ => res_c2 rfl _ g2 _ _ (by kernel_rfl) (by kernel_rfl) hr4 Tryd.underlying52 rfl (by kernel_rfl)) ?_
              refine ⟨_, rfl, ?_, hB⟩
              rfl
            | false =>
              have dhq18 := ne_of_beq_false hq18
              refine cw_cond_f (fun _ => by kernel_rfl) ?_
              refine cw_seq ?_
              refine cw_region ?_
              refine rw_p 29 (.bool ((x : Int) == (4 : Int))) (fun _ => by kernel_rfl) (fun _ => by kernel_rfl) ?_
              refine rw_p 28 (.bool ((x : Int) == (4 : Int))) (fun _ => by kernel_rfl) (fun _ => by kernel_rfl) ?_
              refine rw_nil ?_
              refine nw_then ?_
              cases hq21 : ((x : Int) == (4 : Int)) with
              | true =>
                have dhq21 := eq_of_beq hq21
                refine cw_cond_t (fun _ => by kernel_rfl) ?_
                refine cw_seq ?_
                refine cw_region ?_
                refine rw_p 30 (.agg #[.string (strOfNums ([100, 105, 118])), .int .i64 0, .int .i64 2, .int .i64 1, .int .u64 2]) (fun _ => by kernel_rfl) (fun _ => by kernel_rfl) ?_
                refine rw_put g2 (#[.string (strOfNums ([100, 105, 118])), .int .i64 0, .int .i64 2, .int .i64 1, .int .u64 2]) (fun _ => by kernel_rfl) (fun _ => ol_store 52 _ _ _ _ _ 52 rfl (by kernel_rfl) (by kernel_rfl) hr4 (by kernel_rfl) rfl (by kernel_rfl)) ?_
                intro w22 hp23
                replace hB := hB.put hp23 hzg2
                replace hr4 := hr4.put hp23
                refine rw_p 3 (.bool true) (fun _ => by kernel_rfl) (fun _ => by kernel_rfl) ?_
                refine rw_nil ?_
                refine nw_then ?_
                refine cw_ret ?_
                refine nw_ret_block ?_
                refine nw_ret_then ?_
                have e9 : x = 4 := eq_of_beq hq21
                subst e9
                refine nw_ret_body (.tuple #[.agg (#[.string (strOfNums ([100, 105, 118])), .int .i64 0, .int .i64 2, .int .i64 1, .int .u64 2]), .bool true]) (fun _ => res_c2 rfl _ g2 _ _ (by kernel_rfl) (by kernel_rfl) hr4 Tryd.underlying52 rfl (by kernel_rfl)) ?_
                refine ⟨_, rfl, ?_, hB⟩
                rfl
              | false =>
                have dhq21 := ne_of_beq_false hq21
                refine cw_cond_f (fun _ => by kernel_rfl) ?_
                refine cw_seq ?_
                refine cw_region ?_
                refine rw_p 32 (.bool ((x : Int) == (5 : Int))) (fun _ => by kernel_rfl) (fun _ => by kernel_rfl) ?_
                refine rw_p 31 (.bool ((x : Int) == (5 : Int))) (fun _ => by kernel_rfl) (fun _ => by kernel_rfl) ?_
                refine rw_nil ?_
                refine nw_then ?_
                cases hq24 : ((x : Int) == (5 : Int)) with
                | true =>
                  have dhq24 := eq_of_beq hq24
                  refine cw_cond_t (fun _ => by kernel_rfl) ?_
                  refine cw_seq ?_
                  refine cw_region ?_
                  refine rw_p 33 (.agg #[.string (strOfNums ([109, 111, 100])), .int .i64 0, .int .i64 2, .int .i64 1, .int .u64 2]) (fun _ => by kernel_rfl) (fun _ => by kernel_rfl) ?_
                  refine rw_put g2 (#[.string (strOfNums ([109, 111, 100])), .int .i64 0, .int .i64 2, .int .i64 1, .int .u64 2]) (fun _ => by kernel_rfl) (fun _ => ol_store 52 _ _ _ _ _ 52 rfl (by kernel_rfl) (by kernel_rfl) hr4 (by kernel_rfl) rfl (by kernel_rfl)) ?_
                  intro w25 hp26
                  replace hB := hB.put hp26 hzg2
                  replace hr4 := hr4.put hp26
                  refine rw_p 3 (.bool true) (fun _ => by kernel_rfl) (fun _ => by kernel_rfl) ?_
                  refine rw_nil ?_
                  refine nw_then ?_
                  refine cw_ret ?_
                  refine nw_ret_block ?_
                  refine nw_ret_then ?_
                  have e9 : x = 5 := eq_of_beq hq24
                  subst e9
                  refine nw_ret_body (.tuple #[.agg (#[.string (strOfNums ([109, 111, 100])), .int .i64 0, .int .i64 2, .int .i64 1, .int .u64 2]), .bool true]) (fun _ => res_c2 rfl _ g2 _ _ (by kernel_rfl) (by kernel_rfl) hr4 Tryd.underlying52 rfl (by kernel_rfl)) ?_
                  refine ⟨_, rfl, ?_, hB⟩
                  rfl
                | false =>
                  have dhq24 := ne_of_beq_false hq24
                  refine cw_cond_f (fun _ => by kernel_rfl) ?_
                  refine cw_seq ?_
                  refine cw_region ?_
                  refine rw_p 35 (.bool ((x : Int) == (6 : Int))) (fun _ => by kernel_rfl) (fun _ => by kernel_rfl) ?_
                  refine rw_p 34 (.bool ((x : Int) == (6 : Int))) (fun _ => by kernel_rfl) (fun _ => by kernel_rfl) ?_
                  refine rw_nil ?_
                  refine nw_then ?_
                  cases hq27 : ((x : Int) == (6 : Int)) with
                  | true =>
                    have dhq27 := eq_of_beq hq27
                    refine cw_cond_t (fun _ => by kernel_rfl) ?_
                    refine cw_seq ?_
                    refine cw_region ?_
                    refine rw_p 36 (.agg #[.string (strOfNums ([108, 101, 115, 115])), .int .i64 0, .int .i64 2, .int .i64 1, .int .u64 1]) (fun _ => by kernel_rfl) (fun _ => by kernel_rfl) ?_
                    refine rw_put g2 (#[.string (strOfNums ([108, 101, 115, 115])), .int .i64 0, .int .i64 2, .int .i64 1, .int .u64 1]) (fun _ => by kernel_rfl) (fun _ => ol_store 52 _ _ _ _ _ 52 rfl (by kernel_rfl) (by kernel_rfl) hr4 (by kernel_rfl) rfl (by kernel_rfl)) ?_
                    intro w28 hp29
                    replace hB := hB.put hp29 hzg2
                    replace hr4 := hr4.put hp29
                    refine rw_p 3 (.bool true) (fun _ => by kernel_rfl) (fun _ => by kernel_rfl) ?_
                    refine rw_nil ?_
                    refine nw_then ?_
                    refine cw_ret ?_
                    refine nw_ret_block ?_
                    refine nw_ret_then ?_
                    have e9 : x = 6 := eq_of_beq hq27
                    subst e9
                    refine nw_ret_body (.tuple #[.agg (#[.string (strOfNums ([108, 101, 115, 115])), .int .i64 0, .int .i64 2, .int .i64 1, .int .u64 1]), .bool true]) (fun _ => res_c2 rfl _ g2 _ _ (by kernel_rfl) (by kernel_rfl) hr4 Tryd.underlying52 rfl (by kernel_rfl)) ?_
                    refine ⟨_, rfl, ?_, hB⟩
                    rfl
                  | false =>
                    have dhq27 := ne_of_beq_false hq27
                    refine cw_cond_f (fun _ => by kernel_rfl) ?_
                    refine cw_seq ?_
                    refine cw_region ?_
                    refine rw_p 38 (.bool ((x : Int) == (7 : Int))) (fun _ => by kernel_rfl) (fun _ => by kernel_rfl) ?_
                    refine rw_p 37 (.bool ((x : Int) == (7 : Int))) (fun _ => by kernel_rfl) (fun _ => by kernel_rfl) ?_
                    refine rw_nil ?_
                    refine nw_then ?_
                    cases hq30 : ((x : Int) == (7 : Int)) with
                    | true =>
                      have dhq30 := eq_of_beq hq30
                      refine cw_cond_t (fun _ => by kernel_rfl) ?_
                      refine cw_seq ?_
                      refine cw_region ?_
                      refine rw_p 39 (.agg #[.string (strOfNums ([101, 113, 117, 97, 108])), .int .i64 0, .int .i64 2, .int .i64 1, .int .u64 1]) (fun _ => by kernel_rfl) (fun _ => by kernel_rfl) ?_
                      refine rw_put g2 (#[.string (strOfNums ([101, 113, 117, 97, 108])), .int .i64 0, .int .i64 2, .int .i64 1, .int .u64 1]) (fun _ => by kernel_rfl) (fun _ => ol_store 52 _ _ _ _ _ 52 rfl (by kernel_rfl) (by kernel_rfl) hr4 (by kernel_rfl) rfl (by kernel_rfl)) ?_
                      intro w31 hp32
                      replace hB := hB.put hp32 hzg2
                      replace hr4 := hr4.put hp32
                      refine rw_p 3 (.bool true) (fun _ => by kernel_rfl) (fun _ => by kernel_rfl) ?_
                      refine rw_nil ?_
                      refine nw_then ?_
                      refine cw_ret ?_
                      refine nw_ret_block ?_
                      refine nw_ret_then ?_
                      have e9 : x = 7 := eq_of_beq hq30
                      subst e9
                      refine nw_ret_body (.tuple #[.agg (#[.string (strOfNums ([101, 113, 117, 97, 108])), .int .i64 0, .int .i64 2, .int .i64 1, .int .u64 1]), .bool true]) (fun _ => res_c2 rfl _ g2 _ _ (by kernel_rfl) (by kernel_rfl) hr4 Tryd.underlying52 rfl (by kernel_rfl)) ?_
                      refine ⟨_, rfl, ?_, hB⟩
                      rfl
                    | false =>
                      have dhq30 := ne_of_beq_false hq30
                      refine cw_cond_f (fun _ => by kernel_rfl) ?_
                      refine cw_seq ?_
                      refine cw_region ?_
                      refine rw_p 41 (.bool ((x : Int) == (8 : Int))) (fun _ => by kernel_rfl) (fun _ => by kernel_rfl) ?_
                      refine rw_p 40 (.bool ((x : Int) == (8 : Int))) (fun _ => by kernel_rfl) (fun _ => by kernel_rfl) ?_
                      refine rw_nil ?_
                      refine nw_then ?_
                      cases hq33 : ((x : Int) == (8 : Int)) with
                      | true =>
                        have dhq33 := eq_of_beq hq33
                        refine cw_cond_t (fun _ => by kernel_rfl) ?_
                        refine cw_seq ?_
                        refine cw_region ?_
                        refine rw_p 42 (.agg #[.string (strOfNums ([110, 111, 116])), .int .i64 0, .int .i64 1, .int .i64 1, .int .u64 1]) (fun _ => by kernel_rfl) (fun _ => by kernel_rfl) ?_
                        refine rw_put g2 (#[.string (strOfNums ([110, 111, 116])), .int .i64 0, .int .i64 1, .int .i64 1, .int .u64 1]) (fun _ => by kernel_rfl) (fun _ => ol_store 52 _ _ _ _ _ 52 rfl (by kernel_rfl) (by kernel_rfl) hr4 (by kernel_rfl) rfl (by kernel_rfl)) ?_
                        intro w34 hp35
                        replace hB := hB.put hp35 hzg2
                        replace hr4 := hr4.put hp35
                        refine rw_p 3 (.bool true) (fun _ => by kernel_rfl) (fun _ => by kernel_rfl) ?_
                        refine rw_nil ?_
                        refine nw_then ?_
                        refine cw_ret ?_
                        refine nw_ret_block ?_
                        refine nw_ret_then ?_
                        have e9 : x = 8 := eq_of_beq hq33
                        subst e9
                        refine nw_ret_body (.tuple #[.agg (#[.string (strOfNums ([110, 111, 116])), .int .i64 0, .int .i64 1, .int .i64 1, .int .u64 1]), .bool true]) (fun _ => res_c2 rfl _ g2 _ _ (by kernel_rfl) (by kernel_rfl) hr4 Tryd.underlying52 rfl (by kernel_rfl)) ?_
                        refine ⟨_, rfl, ?_, hB⟩
                        rfl
                      | false =>
                        have dhq33 := ne_of_beq_false hq33
                        refine cw_cond_f (fun _ => by kernel_rfl) ?_
                        refine cw_seq ?_
                        refine cw_region ?_
                        refine rw_p 44 (.bool ((x : Int) == (48 : Int))) (fun _ => by kernel_rfl) (fun _ => by kernel_rfl) ?_
                        refine rw_p 43 (.bool ((x : Int) == (48 : Int))) (fun _ => by kernel_rfl) (fun _ => by kernel_rfl) ?_
                        refine rw_nil ?_
                        refine nw_then ?_
                        cases hq36 : ((x : Int) == (48 : Int)) with
                        | true =>
                          have dhq36 := eq_of_beq hq36
                          refine cw_cond_t (fun _ => by kernel_rfl) ?_
                          refine cw_seq ?_
                          refine cw_region ?_
                          refine rw_p 45 (.agg #[.string (strOfNums ([112, 111, 112])), .int .i64 0, .int .i64 1, .int .i64 0, .int .u64 1]) (fun _ => by kernel_rfl) (fun _ => by kernel_rfl) ?_
                          refine rw_put g2 (#[.string (strOfNums ([112, 111, 112])), .int .i64 0, .int .i64 1, .int .i64 0, .int .u64 1]) (fun _ => by kernel_rfl) (fun _ => ol_store 52 _ _ _ _ _ 52 rfl (by kernel_rfl) (by kernel_rfl) hr4 (by kernel_rfl) rfl (by kernel_rfl)) ?_
                          intro w37 hp38
                          replace hB := hB.put hp38 hzg2
                          replace hr4 := hr4.put hp38
                          refine rw_p 3 (.bool true) (fun _ => by kernel_rfl) (fun _ => by kernel_rfl) ?_
                          refine rw_nil ?_
                          refine nw_then ?_
                          refine cw_ret ?_
                          refine nw_ret_block ?_
                          refine nw_ret_then ?_
                          have e9 : x = 48 := eq_of_beq hq36
                          subst e9
                          refine nw_ret_body (.tuple #[.agg (#[.string (strOfNums ([112, 111, 112])), .int .i64 0, .int .i64 1, .int .i64 0, .int .u64 1]), .bool true]) (fun _ => res_c2 rfl _ g2 _ _ (by kernel_rfl) (by kernel_rfl) hr4 Tryd.underlying52 rfl (by kernel_rfl)) ?_
                          refine ⟨_, rfl, ?_, hB⟩
                          rfl
                        | false =>
                          have dhq36 := ne_of_beq_false hq36
                          refine cw_cond_f (fun _ => by kernel_rfl) ?_
                          refine cw_seq ?_
                          refine cw_region ?_
                          refine rw_p 47 (.bool ((x : Int) == (49 : Int))) (fun _ => by kernel_rfl) (fun _ => by kernel_rfl) ?_
                          refine rw_p 46 (.bool ((x : Int) == (49 : Int))) (fun _ => by kernel_rfl) (fun _ => by kernel_rfl) ?_
                          refine rw_nil ?_
                          refine nw_then ?_
                          cases hq39 : ((x : Int) == (49 : Int)) with
                          | true =>
                            have dhq39 := eq_of_beq hq39
                            refine cw_cond_t (fun _ => by kernel_rfl) ?_
                            refine cw_seq ?_
                            refine cw_region ?_
                            refine rw_p 48 (.agg #[.string (strOfNums ([100, 117, 112])), .int .i64 1, .int .i64 0, .int .i64 1, .int .u64 1]) (fun _ => by kernel_rfl) (fun _ => by kernel_rfl) ?_
                            refine rw_put g2 (#[.string (strOfNums ([100, 117, 112])), .int .i64 1, .int .i64 0, .int .i64 1, .int .u64 1]) (fun _ => by kernel_rfl) (fun _ => ol_store 52 _ _ _ _ _ 52 rfl (by kernel_rfl) (by kernel_rfl) hr4 (by kernel_rfl) rfl (by kernel_rfl)) ?_
                            intro w40 hp41
                            replace hB := hB.put hp41 hzg2
                            replace hr4 := hr4.put hp41
                            refine rw_p 3 (.bool true) (fun _ => by kernel_rfl) (fun _ => by kernel_rfl) ?_
                            refine rw_nil ?_
                            refine nw_then ?_
                            refine cw_ret ?_
                            refine nw_ret_block ?_
                            refine nw_ret_then ?_
                            have e9 : x = 49 := eq_of_beq hq39
                            subst e9
                            refine nw_ret_body (.tuple #[.agg (#[.string (strOfNums ([100, 117, 112])), .int .i64 1, .int .i64 0, .int .i64 1, .int .u64 1]), .bool true]) (fun _ => res_c2 rfl _ g2 _ _ (by kernel_rfl) (by kernel_rfl) hr4 Tryd.underlying52 rfl (by kernel_rfl)) ?_
                            refine ⟨_, rfl, ?_, hB⟩
                            rfl
                          | false =>
                            have dhq39 := ne_of_beq_false hq39
                            refine cw_cond_f (fun _ => by kernel_rfl) ?_
                            refine cw_seq ?_
                            refine cw_region ?_
                            refine rw_p 50 (.bool ((x : Int) == (50 : Int))) (fun _ => by kernel_rfl) (fun _ => by kernel_rfl) ?_
                            refine rw_p 49 (.bool ((x : Int) == (50 : Int))) (fun _ => by kernel_rfl) (fun _ => by kernel_rfl) ?_
                            refine rw_nil ?_
                            refine nw_then ?_
                            cases hq42 : ((x : Int) == (50 : Int)) with
                            | true =>
                              have dhq42 := eq_of_beq hq42
                              refine cw_cond_t (fun _ => by kernel_rfl) ?_
                              refine cw_seq ?_
                              refine cw_region ?_
                              refine rw_p 51 (.agg #[.string (strOfNums ([115, 119, 97, 112])), .int .i64 1, .int .i64 0, .int .i64 0, .int .u64 1]) (fun _ => by kernel_rfl) (fun _ => by kernel_rfl) ?_
                              refine rw_put g2 (#[.string (strOfNums ([115, 119, 97, 112])), .int .i64 1, .int .i64 0, .int .i64 0, .int .u64 1]) (fun _ => by kernel_rfl) (fun _ => ol_store 52 _ _ _ _ _ 52 rfl (by kernel_rfl) (by kernel_rfl) hr4 (by kernel_rfl) rfl (by kernel_rfl)) ?_
                              intro w43 hp44
                              replace hB := hB.put hp44 hzg2
                              replace hr4 := hr4.put hp44
                              refine rw_p 3 (.bool true) (fun _ => by kernel_rfl) (fun _ => by kernel_rfl) ?_
                              refine rw_nil ?_
                              refine nw_then ?_
                              refine cw_ret ?_
                              refine nw_ret_block ?_
                              refine nw_ret_then ?_
                              have e9 : x = 50 := eq_of_beq hq42
                              subst e9
                              refine nw_ret_body (.tuple #[.agg (#[.string (strOfNums ([115, 119, 97, 112])), .int .i64 1, .int .i64 0, .int .i64 0, .int .u64 1]), .bool true]) (fun _ => res_c2 rfl _ g2 _ _ (by kernel_rfl) (by kernel_rfl) hr4 Tryd.underlying52 rfl (by kernel_rfl)) ?_
                              refine ⟨_, rfl, ?_, hB⟩
                              rfl
                            | false =>
                              have dhq42 := ne_of_beq_false hq42
                              refine cw_cond_f (fun _ => by kernel_rfl) ?_
                              refine cw_seq ?_
                              refine cw_region ?_
                              refine rw_p 53 (.bool ((x : Int) == (64 : Int))) (fun _ => by kernel_rfl) (fun _ => by kernel_rfl) ?_
                              refine rw_p 52 (.bool ((x : Int) == (64 : Int))) (fun _ => by kernel_rfl) (fun _ => by kernel_rfl) ?_
                              refine rw_nil ?_
                              refine nw_then ?_
                              cases hq45 : ((x : Int) == (64 : Int)) with
                              | true =>
                                have dhq45 := eq_of_beq hq45
                                refine cw_cond_t (fun _ => by kernel_rfl) ?_
                                refine cw_seq ?_
                                refine cw_region ?_
                                refine rw_p 54 (.agg #[.string (strOfNums ([106, 117, 109, 112])), .int .i64 0, .int .i64 1, .int .i64 0, .int .u64 3]) (fun _ => by kernel_rfl) (fun _ => by kernel_rfl) ?_
                                refine rw_put g2 (#[.string (strOfNums ([106, 117, 109, 112])), .int .i64 0, .int .i64 1, .int .i64 0, .int .u64 3]) (fun _ => by kernel_rfl) (fun _ => ol_store 52 _ _ _ _ _ 52 rfl (by kernel_rfl) (by kernel_rfl) hr4 (by kernel_rfl) rfl (by kernel_rfl)) ?_
                                intro w46 hp47
                                replace hB := hB.put hp47 hzg2
                                replace hr4 := hr4.put hp47
                                refine rw_p 3 (.bool true) (fun _ => by kernel_rfl) (fun _ => by kernel_rfl) ?_
                                refine rw_nil ?_
                                refine nw_then ?_
                                refine cw_ret ?_
                                refine nw_ret_block ?_
                                refine nw_ret_then ?_
                                have e9 : x = 64 := eq_of_beq hq45
                                subst e9
                                refine nw_ret_body (.tuple #[.agg (#[.string (strOfNums ([106, 117, 109, 112])), .int .i64 0, .int .i64 1, .int .i64 0, .int .u64 3]), .bool true]) (fun _ => res_c2 rfl _ g2 _ _ (by kernel_rfl) (by kernel_rfl) hr4 Tryd.underlying52 rfl (by kernel_rfl)) ?_
                                refine ⟨_, rfl, ?_, hB⟩
                                rfl
                              | false =>
                                have dhq45 := ne_of_beq_false hq45
                                refine cw_cond_f (fun _ => by kernel_rfl) ?_
                                refine cw_seq ?_
                                refine cw_region ?_
                                refine rw_p 56 (.bool ((x : Int) == (65 : Int))) (fun _ => by kernel_rfl) (fun _ => by kernel_rfl) ?_
                                refine rw_p 55 (.bool ((x : Int) == (65 : Int))) (fun _ => by kernel_rfl) (fun _ => by kernel_rfl) ?_
                                refine rw_nil ?_
                                refine nw_then ?_
                                cases hq48 : ((x : Int) == (65 : Int)) with
                                | true =>
                                  have dhq48 := eq_of_beq hq48
                                  refine cw_cond_t (fun _ => by kernel_rfl) ?_
                                  refine cw_seq ?_
                                  refine cw_region ?_
                                  refine rw_p 57 (.agg #[.string (strOfNums ([106, 117, 109, 112, 105, 102])), .int .i64 0, .int .i64 2, .int .i64 0, .int .u64 3]) (fun _ => by kernel_rfl) (fun _ => by kernel_rfl) ?_
                                  refine rw_put g2 (#[.string (strOfNums ([106, 117, 109, 112, 105, 102])), .int .i64 0, .int .i64 2, .int .i64 0, .int .u64 3]) (fun _ => by kernel_rfl) (fun _ => ol_store 52 _ _ _ _ _ 52 rfl (by kernel_rfl) (by kernel_rfl) hr4 (by kernel_rfl) rfl (by kernel_rfl)) ?_
                                  intro w49 hp50
                                  replace hB := hB.put hp50 hzg2
                                  replace hr4 := hr4.put hp50
                                  refine rw_p 3 (.bool true) (fun _ => by kernel_rfl) (fun _ => by kernel_rfl) ?_
                                  refine rw_nil ?_
                                  refine nw_then ?_
                                  refine cw_ret ?_
                                  refine nw_ret_block ?_
                                  refine nw_ret_then ?_
                                  have e9 : x = 65 := eq_of_beq hq48
                                  subst e9
                                  refine nw_ret_body (.tuple #[.agg (#[.string (strOfNums ([106, 117, 109, 112, 105, 102])), .int .i64 0, .int .i64 2, .int .i64 0, .int .u64 3]), .bool true]) (fun _ => res_c2 rfl _ g2 _ _ (by kernel_rfl) (by kernel_rfl) hr4 Tryd.underlying52 rfl (by kernel_rfl)) ?_
                                  refine ⟨_, rfl, ?_, hB⟩
                                  rfl
                                | false =>
                                  have dhq48 := ne_of_beq_false hq48
                                  refine cw_cond_f (fun _ => by kernel_rfl) ?_
                                  refine cw_seq ?_
                                  refine cw_region ?_
                                  refine rw_p 59 (.bool ((x : Int) == (66 : Int))) (fun _ => by kernel_rfl) (fun _ => by kernel_rfl) ?_
                                  refine rw_p 58 (.bool ((x : Int) == (66 : Int))) (fun _ => by kernel_rfl) (fun _ => by kernel_rfl) ?_
                                  refine rw_nil ?_
                                  refine nw_then ?_
                                  cases hq51 : ((x : Int) == (66 : Int)) with
                                  | true =>
                                    have dhq51 := eq_of_beq hq51
                                    refine cw_cond_t (fun _ => by kernel_rfl) ?_
                                    refine cw_seq ?_
                                    refine cw_region ?_
                                    refine rw_p 60 (.agg #[.string (strOfNums ([109, 97, 114, 107])), .int .i64 0, .int .i64 0, .int .i64 0, .int .u64 1]) (fun _ => by kernel_rfl) (fun _ => by kernel_rfl) ?_
                                    refine rw_put g2 (#[.string (strOfNums ([109, 97, 114, 107])), .int .i64 0, .int .i64 0, .int .i64 0, .int .u64 1]) (fun _ => by kernel_rfl) (fun _ => ol_store 52 _ _ _ _ _ 52 rfl (by kernel_rfl) (by kernel_rfl) hr4 (by kernel_rfl) rfl (by kernel_rfl)) ?_
                                    intro w52 hp53
                                    replace hB := hB.put hp53 hzg2
                                    replace hr4 := hr4.put hp53
                                    refine rw_p 3 (.bool true) (fun _ => by kernel_rfl) (fun _ => by kernel_rfl) ?_
                                    refine rw_nil ?_
                                    refine nw_then ?_
                                    refine cw_ret ?_
                                    refine nw_ret_block ?_
                                    refine nw_ret_then ?_
                                    have e9 : x = 66 := eq_of_beq hq51
                                    subst e9
                                    refine nw_ret_body (.tuple #[.agg (#[.string (strOfNums ([109, 97, 114, 107])), .int .i64 0, .int .i64 0, .int .i64 0, .int .u64 1]), .bool true]) (fun _ => res_c2 rfl _ g2 _ _ (by kernel_rfl) (by kernel_rfl) hr4 Tryd.underlying52 rfl (by kernel_rfl)) ?_
                                    refine ⟨_, rfl, ?_, hB⟩
                                    rfl
                                  | false =>
                                    have dhq51 := ne_of_beq_false hq51
                                    refine cw_cond_f (fun _ => by kernel_rfl) ?_
                                    refine cw_skip ?_
                                    refine nw_block ?_
                                    refine nw_then ?_
                                    refine cw_seq ?_
                                    refine cw_region ?_
                                    refine rw_p 61 (.int .u8 x) (fun _ => by kernel_rfl) (fun _ => by kernel_rfl) ?_
                                    refine rw_call 62 34 #[.int .u8 x] (fun _ => by kernel_rfl) (fun _ => by kernel_rfl) (R := RVl w1 (.tuple #[.agg (NfV ((ofP x).getD nf0)), .bool (ofP x).isSome])) (rmore hx0 hx1 (by omega) (by omega) w1) ?_
                                    rintro _ w54 ⟨rfl, hb55⟩
                                    replace hB := hB.go hb55
                                    replace hr4 := hr4.go hb55
                                    refine rw_p 63 (.agg (NfV ((ofP x).getD nf0))) (fun _ => by kernel_rfl) (fun _ => by kernel_rfl) ?_
                                    refine rw_p 64 (.bool (ofP x).isSome) (fun _ => by kernel_rfl) (fun _ => by kernel_rfl) ?_
                                    refine rw_put g2 (NfV ((ofP x).getD nf0)) (fun _ => by kernel_rfl) (fun _ => ol_store 52 _ _ _ _ _ 52 rfl (by kernel_rfl) (by kernel_rfl) hr4 (by kernel_rfl) rfl (by kernel_rfl)) ?_
                                    intro w56 hp57
                                    replace hB := hB.put hp57 hzg2
                                    replace hr4 := hr4.put hp57
                                    refine rw_p 3 (.bool (ofP x).isSome) (fun _ => by kernel_rfl) (fun _ => by kernel_rfl) ?_
                                    refine rw_nil ?_
                                    refine nw_then ?_
                                    refine cw_ret ?_
                                    refine nw_ret_body (.tuple #[.agg (NfV ((ofP x).getD nf0)), .bool (ofP x).isSome]) (fun _ => res_c2 rfl _ g2 _ _ (by kernel_rfl) (by kernel_rfl) hr4 Tryd.underlying52 rfl (by kernel_rfl)) ?_
                                    refine ⟨_, rfl, ?_, hB⟩
                                    rfl
  | false =>
    have dhq5 := of_decide_eq_false hq5
    refine rw_off 7 (fun _ => by kernel_rfl) ?_
    refine rw_off 8 (fun _ => by kernel_rfl) ?_
    refine rw_p 9 (.bool false) (fun _ => by kernel_rfl) (fun _ => by kernel_rfl) ?_
    refine rw_nil ?_
    refine nw_then ?_
    refine cw_cond_f (fun _ => by kernel_rfl) ?_
    refine cw_skip ?_
    refine nw_then ?_
    refine cw_seq ?_
    refine cw_seq ?_
    refine cw_region ?_
    refine rw_p 15 (.int .u8 x) (fun _ => by kernel_rfl) (fun _ => by kernel_rfl) ?_
    refine rw_nil ?_
    refine nw_then ?_
    refine cw_block ?_
    refine cw_seq ?_
    refine cw_region ?_
    refine rw_p 17 (.bool ((x : Int) == (0 : Int))) (fun _ => by kernel_rfl) (fun _ => by kernel_rfl) ?_
    refine rw_p 16 (.bool ((x : Int) == (0 : Int))) (fun _ => by kernel_rfl) (fun _ => by kernel_rfl) ?_
    refine rw_nil ?_
    refine nw_then ?_
    cases hq58 : ((x : Int) == (0 : Int)) with
    | true =>
      have dhq58 := eq_of_beq hq58
      refine cw_cond_t (fun _ => by kernel_rfl) ?_
      refine cw_seq ?_
      refine cw_region ?_
      refine rw_p 18 (.agg #[.string (strOfNums ([115, 116, 111, 112])), .int .i64 0, .int .i64 0, .int .i64 0, .int .u64 0]) (fun _ => by kernel_rfl) (fun _ => by kernel_rfl) ?_
      refine rw_put g2 (#[.string (strOfNums ([115, 116, 111, 112])), .int .i64 0, .int .i64 0, .int .i64 0, .int .u64 0]) (fun _ => by kernel_rfl) (fun _ => ol_store 52 _ _ _ _ _ 52 rfl (by kernel_rfl) (by kernel_rfl) hr4 (by kernel_rfl) rfl (by kernel_rfl)) ?_
      intro w59 hp60
      replace hB := hB.put hp60 hzg2
      replace hr4 := hr4.put hp60
      refine rw_p 3 (.bool true) (fun _ => by kernel_rfl) (fun _ => by kernel_rfl) ?_
      refine rw_nil ?_
      refine nw_then ?_
      refine cw_ret ?_
      refine nw_ret_block ?_
      refine nw_ret_then ?_
      have e9 : x = 0 := eq_of_beq hq58
      subst e9
      refine nw_ret_body (.tuple #[.agg (#[.string (strOfNums ([115, 116, 111, 112])), .int .i64 0, .int .i64 0, .int .i64 0, .int .u64 0]), .bool true]) (fun _ => res_c2 rfl _ g2 _ _ (by kernel_rfl) (by kernel_rfl) hr4 Tryd.underlying52 rfl (by kernel_rfl)) ?_
      refine ⟨_, rfl, ?_, hB⟩
      rfl
    | false =>
      have dhq58 := ne_of_beq_false hq58
      refine cw_cond_f (fun _ => by kernel_rfl) ?_
      refine cw_seq ?_
      refine cw_region ?_
      refine rw_p 20 (.bool ((x : Int) == (1 : Int))) (fun _ => by kernel_rfl) (fun _ => by kernel_rfl) ?_
      refine rw_p 19 (.bool ((x : Int) == (1 : Int))) (fun _ => by kernel_rfl) (fun _ => by kernel_rfl) ?_
      refine rw_nil ?_
      refine nw_then ?_
      cases hq61 : ((x : Int) == (1 : Int)) with
      | true =>
        have dhq61 := eq_of_beq hq61
        refine cw_cond_t (fun _ => by kernel_rfl) ?_
        refine cw_seq ?_
        refine cw_region ?_
        refine rw_p 21 (.agg #[.string (strOfNums ([97, 100, 100])), .int .i64 0, .int .i64 2, .int .i64 1, .int .u64 1]) (fun _ => by kernel_rfl) (fun _ => by kernel_rfl) ?_
        refine rw_put g2 (#[.string (strOfNums ([97, 100, 100])), .int .i64 0, .int .i64 2, .int .i64 1, .int .u64 1]) (fun _ => by kernel_rfl) (fun _ => ol_store 52 _ _ _ _ _ 52 rfl (by kernel_rfl) (by kernel_rfl) hr4 (by kernel_rfl) rfl (by kernel_rfl)) ?_
        intro w62 hp63
        replace hB := hB.put hp63 hzg2
        replace hr4 := hr4.put hp63
        refine rw_p 3 (.bool true) (fun _ => by kernel_rfl) (fun _ => by kernel_rfl) ?_
        refine rw_nil ?_
        refine nw_then ?_
        refine cw_ret ?_
        refine nw_ret_block ?_
        refine nw_ret_then ?_
        have e9 : x = 1 := eq_of_beq hq61
        subst e9
        refine nw_ret_body (.tuple #[.agg (#[.string (strOfNums ([97, 100, 100])), .int .i64 0, .int .i64 2, .int .i64 1, .int .u64 1]), .bool true]) (fun _ => res_c2 rfl _ g2 _ _ (by kernel_rfl) (by kernel_rfl) hr4 Tryd.underlying52 rfl (by kernel_rfl)) ?_
        refine ⟨_, rfl, ?_, hB⟩
        rfl
      | false =>
        have dhq61 := ne_of_beq_false hq61
        refine cw_cond_f (fun _ => by kernel_rfl) ?_
        refine cw_seq ?_
        refine cw_region ?_
        refine rw_p 23 (.bool ((x : Int) == (2 : Int))) (fun _ => by kernel_rfl) (fun _ => by kernel_rfl) ?_
        refine rw_p 22 (.bool ((x : Int) == (2 : Int))) (fun _ => by kernel_rfl) (fun _ => by kernel_rfl) ?_
        refine rw_nil ?_
        refine nw_then ?_
        cases hq64 : ((x : Int) == (2 : Int)) with
        | true =>
          have dhq64 := eq_of_beq hq64
          refine cw_cond_t (fun _ => by kernel_rfl) ?_
          refine cw_seq ?_
          refine cw_region ?_
          refine rw_p 24 (.agg #[.string (strOfNums ([115, 117, 98])), .int .i64 0, .int .i64 2, .int .i64 1, .int .u64 1]) (fun _ => by kernel_rfl) (fun _ => by kernel_rfl) ?_
          refine rw_put g2 (#[.string (strOfNums ([115, 117, 98])), .int .i64 0, .int .i64 2, .int .i64 1, .int .u64 1]) (fun _ => by kernel_rfl) (fun _ => ol_store 52 _ _ _ _ _ 52 rfl (by kernel_rfl) (by kernel_rfl) hr4 (by kernel_rfl) rfl (by kernel_rfl)) ?_
          intro w65 hp66
          replace hB := hB.put hp66 hzg2
          replace hr4 := hr4.put hp66
          refine rw_p 3 (.bool true) (fun _ => by kernel_rfl) (fun _ => by kernel_rfl) ?_
          refine rw_nil ?_
          refine nw_then ?_
          refine cw_ret ?_
          refine nw_ret_block ?_
          refine nw_ret_then ?_
          have e9 : x = 2 := eq_of_beq hq64
          subst e9
          refine nw_ret_body (.tuple #[.agg (#[.string (strOfNums ([115, 117, 98])), .int .i64 0, .int .i64 2, .int .i64 1, .int .u64 1]), .bool true]) (fun _ => res_c2 rfl _ g2 _ _ (by kernel_rfl) (by kernel_rfl) hr4 Tryd.underlying52 rfl (by kernel_rfl)) ?_
          refine ⟨_, rfl, ?_, hB⟩
          rfl
        | false =>
          have dhq64 := ne_of_beq_false hq64
          refine cw_cond_f (fun _ => by kernel_rfl) ?_
          refine cw_seq ?_
          refine cw_region ?_
          refine rw_p 26 (.bool ((x : Int) == (3 : Int))) (fun _ => by kernel_rfl) (fun _ => by kernel_rfl) ?_
          refine rw_p 25 (.bool ((x : Int) == (3 : Int))) (fun _ => by kernel_rfl) (fun _ => by kernel_rfl) ?_
          refine rw_nil ?_
          refine nw_then ?_
          cases hq67 : ((x : Int) == (3 : Int)) with
          | true =>
            have dhq67 := eq_of_beq hq67
            refine cw_cond_t (fun _ => by kernel_rfl) ?_
            refine cw_seq ?_
            refine cw_region ?_
            refine rw_p 27 (.agg #[.string (strOfNums ([109, 117, 108])), .int .i64 0, .int .i64 2, .int .i64 1, .int .u64 2]) (fun _ => by kernel_rfl) (fun _ => by kernel_rfl) ?_
            refine rw_put g2 (#[.string (strOfNums ([109, 117, 108])), .int .i64 0, .int .i64 2, .int .i64 1, .int .u64 2]) (fun _ => by kernel_rfl) (fun _ => ol_store 52 _ _ _ _ _ 52 rfl (by kernel_rfl) (by kernel_rfl) hr4 (by kernel_rfl) rfl (by kernel_rfl)) ?_
            intro w68 hp69
            replace hB := hB.put hp69 hzg2
            replace hr4 := hr4.put hp69
            refine rw_p 3 (.bool true) (fun _ => by kernel_rfl) (fun _ => by kernel_rfl) ?_
            refine rw_nil ?_
            refine nw_then ?_
            refine cw_ret ?_
            refine nw_ret_block ?_
            refine nw_ret_then ?_
            have e9 : x = 3 := eq_of_beq hq67
            subst e9
            refine nw_ret_body (.tuple #[.agg (#[.string (strOfNums ([109, 117, 108])), .int .i64 0, .int .i64 2, .int .i64 1, .int .u64 2]), .bool true]) (fun _ => res_c2 rfl _ g2 _ _ (by kernel_rfl) (by kernel_rfl) hr4 Tryd.underlying52 rfl (by kernel_rfl)) ?_
            refine ⟨_, rfl, ?_, hB⟩
            rfl
          | false =>
            have dhq67 := ne_of_beq_false hq67
            refine cw_cond_f (fun _ => by kernel_rfl) ?_
            refine cw_seq ?_
            refine cw_region ?_
            refine rw_p 29 (.bool ((x : Int) == (4 : Int))) (fun _ => by kernel_rfl) (fun _ => by kernel_rfl) ?_
            refine rw_p 28 (.bool ((x : Int) == (4 : Int))) (fun _ => by kernel_rfl) (fun _ => by kernel_rfl) ?_
            refine rw_nil ?_
            refine nw_then ?_
            cases hq70 : ((x : Int) == (4 : Int)) with
            | true =>
              have dhq70 := eq_of_beq hq70
              refine cw_cond_t (fun _ => by kernel_rfl) ?_
              refine cw_seq ?_
              refine cw_region ?_
              refine rw_p 30 (.agg #[.string (strOfNums ([100, 105, 118])), .int .i64 0, .int .i64 2, .int .i64 1, .int .u64 2]) (fun _ => by kernel_rfl) (fun _ => by kernel_rfl) ?_
              refine rw_put g2 (#[.string (strOfNums ([100, 105, 118])), .int .i64 0, .int .i64 2, .int .i64 1, .int .u64 2]) (fun _ => by kernel_rfl) (fun _ => ol_store 52 _ _ _ _ _ 52 rfl (by kernel_rfl) (by kernel_rfl) hr4 (by kernel_rfl) rfl (by kernel_rfl)) ?_
              intro w71 hp72
              replace hB := hB.put hp72 hzg2
              replace hr4 := hr4.put hp72
              refine rw_p 3 (.bool true) (fun _ => by kernel_rfl) (fun _ => by kernel_rfl) ?_
              refine rw_nil ?_
              refine nw_then ?_
              refine cw_ret ?_
              refine nw_ret_block ?_
              refine nw_ret_then ?_
              have e9 : x = 4 := eq_of_beq hq70
              subst e9
              refine nw_ret_body (.tuple #[.agg (#[.string (strOfNums ([100, 105, 118])), .int .i64 0, .int .i64 2, .int .i64 1, .int .u64 2]), .bool true]) (fun _ => res_c2 rfl _ g2 _ _ (by kernel_rfl) (by kernel_rfl) hr4 Tryd.underlying52 rfl (by kernel_rfl)) ?_
              refine ⟨_, rfl, ?_, hB⟩
              rfl
            | false =>
              have dhq70 := ne_of_beq_false hq70
              refine cw_cond_f (fun _ => by kernel_rfl) ?_
              refine cw_seq ?_
              refine cw_region ?_
              refine rw_p 32 (.bool ((x : Int) == (5 : Int))) (fun _ => by kernel_rfl) (fun _ => by kernel_rfl) ?_
              refine rw_p 31 (.bool ((x : Int) == (5 : Int))) (fun _ => by kernel_rfl) (fun _ => by kernel_rfl) ?_
              refine rw_nil ?_
              refine nw_then ?_
              cases hq73 : ((x : Int) == (5 : Int)) with
              | true =>
                have dhq73 := eq_of_beq hq73
                refine cw_cond_t (fun _ => by kernel_rfl) ?_
                refine cw_seq ?_
                refine cw_region ?_
                refine rw_p 33 (.agg #[.string (strOfNums ([109, 111, 100])), .int .i64 0, .int .i64 2, .int .i64 1, .int .u64 2]) (fun _ => by kernel_rfl) (fun _ => by kernel_rfl) ?_
                refine rw_put g2 (#[.string (strOfNums ([109, 111, 100])), .int .i64 0, .int .i64 2, .int .i64 1, .int .u64 2]) (fun _ => by kernel_rfl) (fun _ => ol_store 52 _ _ _ _ _ 52 rfl (by kernel_rfl) (by kernel_rfl) hr4 (by kernel_rfl) rfl (by kernel_rfl)) ?_
                intro w74 hp75
                replace hB := hB.put hp75 hzg2
                replace hr4 := hr4.put hp75
                refine rw_p 3 (.bool true) (fun _ => by kernel_rfl) (fun _ => by kernel_rfl) ?_
                refine rw_nil ?_
                refine nw_then ?_
                refine cw_ret ?_
                refine nw_ret_block ?_
                refine nw_ret_then ?_
                have e9 : x = 5 := eq_of_beq hq73
                subst e9
                refine nw_ret_body (.tuple #[.agg (#[.string (strOfNums ([109, 111, 100])), .int .i64 0, .int .i64 2, .int .i64 1, .int .u64 2]), .bool true]) (fun _ => res_c2 rfl _ g2 _ _ (by kernel_rfl) (by kernel_rfl) hr4 Tryd.underlying52 rfl (by kernel_rfl)) ?_
                refine ⟨_, rfl, ?_, hB⟩
                rfl
              | false =>
                have dhq73 := ne_of_beq_false hq73
                refine cw_cond_f (fun _ => by kernel_rfl) ?_
                refine cw_seq ?_
                refine cw_region ?_
                refine rw_p 35 (.bool ((x : Int) == (6 : Int))) (fun _ => by kernel_rfl) (fun _ => by kernel_rfl) ?_
                refine rw_p 34 (.bool ((x : Int) == (6 : Int))) (fun _ => by kernel_rfl) (fun _ => by kernel_rfl) ?_
                refine rw_nil ?_
                refine nw_then ?_
                cases hq76 : ((x : Int) == (6 : Int)) with
                | true =>
                  have dhq76 := eq_of_beq hq76
                  refine cw_cond_t (fun _ => by kernel_rfl) ?_
                  refine cw_seq ?_
                  refine cw_region ?_
                  refine rw_p 36 (.agg #[.string (strOfNums ([108, 101, 115, 115])), .int .i64 0, .int .i64 2, .int .i64 1, .int .u64 1]) (fun _ => by kernel_rfl) (fun _ => by kernel_rfl) ?_
                  refine rw_put g2 (#[.string (strOfNums ([108, 101, 115, 115])), .int .i64 0, .int .i64 2, .int .i64 1, .int .u64 1]) (fun _ => by kernel_rfl) (fun _ => ol_store 52 _ _ _ _ _ 52 rfl (by kernel_rfl) (by kernel_rfl) hr4 (by kernel_rfl) rfl (by kernel_rfl)) ?_
                  intro w77 hp78
                  replace hB := hB.put hp78 hzg2
                  replace hr4 := hr4.put hp78
                  refine rw_p 3 (.bool true) (fun _ => by kernel_rfl) (fun _ => by kernel_rfl) ?_
                  refine rw_nil ?_
                  refine nw_then ?_
                  refine cw_ret ?_
                  refine nw_ret_block ?_
                  refine nw_ret_then ?_
                  have e9 : x = 6 := eq_of_beq hq76
                  subst e9
                  refine nw_ret_body (.tuple #[.agg (#[.string (strOfNums ([108, 101, 115, 115])), .int .i64 0, .int .i64 2, .int .i64 1, .int .u64 1]), .bool true]) (fun _ => res_c2 rfl _ g2 _ _ (by kernel_rfl) (by kernel_rfl) hr4 Tryd.underlying52 rfl (by kernel_rfl)) ?_
                  refine ⟨_, rfl, ?_, hB⟩
                  rfl
                | false =>
                  have dhq76 := ne_of_beq_false hq76
                  refine cw_cond_f (fun _ => by kernel_rfl) ?_
                  refine cw_seq ?_
                  refine cw_region ?_
                  refine rw_p 38 (.bool ((x : Int) == (7 : Int))) (fun _ => by kernel_rfl) (fun _ => by kernel_rfl) ?_
                  refine rw_p 37 (.bool ((x : Int) == (7 : Int))) (fun _ => by kernel_rfl) (fun _ => by kernel_rfl) ?_
                  refine rw_nil ?_
                  refine nw_then ?_
                  cases hq79 : ((x : Int) == (7 : Int)) with
                  | true =>
                    have dhq79 := eq_of_beq hq79
                    refine cw_cond_t (fun _ => by kernel_rfl) ?_
                    refine cw_seq ?_
                    refine cw_region ?_
                    refine rw_p 39 (.agg #[.string (strOfNums ([101, 113, 117, 97, 108])), .int .i64 0, .int .i64 2, .int .i64 1, .int .u64 1]) (fun _ => by kernel_rfl) (fun _ => by kernel_rfl) ?_
                    refine rw_put g2 (#[.string (strOfNums ([101, 113, 117, 97, 108])), .int .i64 0, .int .i64 2, .int .i64 1, .int .u64 1]) (fun _ => by kernel_rfl) (fun _ => ol_store 52 _ _ _ _ _ 52 rfl (by kernel_rfl) (by kernel_rfl) hr4 (by kernel_rfl) rfl (by kernel_rfl)) ?_
                    intro w80 hp81
                    replace hB := hB.put hp81 hzg2
                    replace hr4 := hr4.put hp81
                    refine rw_p 3 (.bool true) (fun _ => by kernel_rfl) (fun _ => by kernel_rfl) ?_
                    refine rw_nil ?_
                    refine nw_then ?_
                    refine cw_ret ?_
                    refine nw_ret_block ?_
                    refine nw_ret_then ?_
                    have e9 : x = 7 := eq_of_beq hq79
                    subst e9
                    refine nw_ret_body (.tuple #[.agg (#[.string (strOfNums ([101, 113, 117, 97, 108])), .int .i64 0, .int .i64 2, .int .i64 1, .int .u64 1]), .bool true]) (fun _ => res_c2 rfl _ g2 _ _ (by kernel_rfl) (by kernel_rfl) hr4 Tryd.underlying52 rfl (by kernel_rfl)) ?_
                    refine ⟨_, rfl, ?_, hB⟩
                    rfl
                  | false =>
                    have dhq79 := ne_of_beq_false hq79
                    refine cw_cond_f (fun _ => by kernel_rfl) ?_
                    refine cw_seq ?_
                    refine cw_region ?_
                    refine rw_p 41 (.bool ((x : Int) == (8 : Int))) (fun _ => by kernel_rfl) (fun _ => by kernel_rfl) ?_
                    refine rw_p 40 (.bool ((x : Int) == (8 : Int))) (fun _ => by kernel_rfl) (fun _ => by kernel_rfl) ?_
                    refine rw_nil ?_
                    refine nw_then ?_
                    cases hq82 : ((x : Int) == (8 : Int)) with
                    | true =>
                      have dhq82 := eq_of_beq hq82
                      refine cw_cond_t (fun _ => by kernel_rfl) ?_
                      refine cw_seq ?_
                      refine cw_region ?_
                      refine rw_p 42 (.agg #[.string (strOfNums ([110, 111, 116])), .int .i64 0, .int .i64 1, .int .i64 1, .int .u64 1]) (fun _ => by kernel_rfl) (fun _ => by kernel_rfl) ?_
                      refine rw_put g2 (#[.string (strOfNums ([110, 111, 116])), .int .i64 0, .int .i64 1, .int .i64 1, .int .u64 1]) (fun _ => by kernel_rfl) (fun _ => ol_store 52 _ _ _ _ _ 52 rfl (by kernel_rfl) (by kernel_rfl) hr4 (by kernel_rfl) rfl (by kernel_rfl)) ?_
                      intro w83 hp84
                      replace hB := hB.put hp84 hzg2
                      replace hr4 := hr4.put hp84
                      refine rw_p 3 (.bool true) (fun _ => by kernel_rfl) (fun _ => by kernel_rfl) ?_
                      refine rw_nil ?_
                      refine nw_then ?_
                      refine cw_ret ?_
                      refine nw_ret_block ?_
                      refine nw_ret_then ?_
                      have e9 : x = 8 := eq_of_beq hq82
                      subst e9
                      refine nw_ret_body (.tuple #[.agg (#[.string (strOfNums ([110, 111, 116])), .int .i64 0, .int .i64 1, .int .i64 1, .int .u64 1]), .bool true]) (fun _ => res_c2 rfl _ g2 _ _ (by kernel_rfl) (by kernel_rfl) hr4 Tryd.underlying52 rfl (by kernel_rfl)) ?_
                      refine ⟨_, rfl, ?_, hB⟩
                      rfl
                    | false =>
                      have dhq82 := ne_of_beq_false hq82
                      refine cw_cond_f (fun _ => by kernel_rfl) ?_
                      refine cw_seq ?_
                      refine cw_region ?_
                      refine rw_p 44 (.bool ((x : Int) == (48 : Int))) (fun _ => by kernel_rfl) (fun _ => by kernel_rfl) ?_
                      refine rw_p 43 (.bool ((x : Int) == (48 : Int))) (fun _ => by kernel_rfl) (fun _ => by kernel_rfl) ?_
                      refine rw_nil ?_
                      refine nw_then ?_
                      cases hq85 : ((x : Int) == (48 : Int)) with
                      | true =>
                        have dhq85 := eq_of_beq hq85
                        refine cw_cond_t (fun _ => by kernel_rfl) ?_
                        refine cw_seq ?_
                        refine cw_region ?_
                        refine rw_p 45 (.agg #[.string (strOfNums ([112, 111, 112])), .int .i64 0, .int .i64 1, .int .i64 0, .int .u64 1]) (fun _ => by kernel_rfl) (fun _ => by kernel_rfl) ?_
                        refine rw_put g2 (#[.string (strOfNums ([112, 111, 112])), .int .i64 0, .int .i64 1, .int .i64 0, .int .u64 1]) (fun _ => by kernel_rfl) (fun _ => ol_store 52 _ _ _ _ _ 52 rfl (by kernel_rfl) (by kernel_rfl) hr4 (by kernel_rfl) rfl (by kernel_rfl)) ?_
                        intro w86 hp87
                        replace hB := hB.put hp87 hzg2
                        replace hr4 := hr4.put hp87
                        refine rw_p 3 (.bool true) (fun _ => by kernel_rfl) (fun _ => by kernel_rfl) ?_
                        refine rw_nil ?_
                        refine nw_then ?_
                        refine cw_ret ?_
                        refine nw_ret_block ?_
                        refine nw_ret_then ?_
                        have e9 : x = 48 := eq_of_beq hq85
                        subst e9
                        refine nw_ret_body (.tuple #[.agg (#[.string (strOfNums ([112, 111, 112])), .int .i64 0, .int .i64 1, .int .i64 0, .int .u64 1]), .bool true]) (fun _ => res_c2 rfl _ g2 _ _ (by kernel_rfl) (by kernel_rfl) hr4 Tryd.underlying52 rfl (by kernel_rfl)) ?_
                        refine ⟨_, rfl, ?_, hB⟩
                        rfl
                      | false =>
                        have dhq85 := ne_of_beq_false hq85
                        refine cw_cond_f (fun _ => by kernel_rfl) ?_
                        refine cw_seq ?_
                        refine cw_region ?_
                        refine rw_p 47 (.bool ((x : Int) == (49 : Int))) (fun _ => by kernel_rfl) (fun _ => by kernel_rfl) ?_
                        refine rw_p 46 (.bool ((x : Int) == (49 : Int))) (fun _ => by kernel_rfl) (fun _ => by kernel_rfl) ?_
                        refine rw_nil ?_
                        refine nw_then ?_
                        cases hq88 : ((x : Int) == (49 : Int)) with
                        | true =>
                          have dhq88 := eq_of_beq hq88
                          refine cw_cond_t (fun _ => by kernel_rfl) ?_
                          refine cw_seq ?_
                          refine cw_region ?_
                          refine rw_p 48 (.agg #[.string (strOfNums ([100, 117, 112])), .int .i64 1, .int .i64 0, .int .i64 1, .int .u64 1]) (fun _ => by kernel_rfl) (fun _ => by kernel_rfl) ?_
                          refine rw_put g2 (#[.string (strOfNums ([100, 117, 112])), .int .i64 1, .int .i64 0, .int .i64 1, .int .u64 1]) (fun _ => by kernel_rfl) (fun _ => ol_store 52 _ _ _ _ _ 52 rfl (by kernel_rfl) (by kernel_rfl) hr4 (by kernel_rfl) rfl (by kernel_rfl)) ?_
                          intro w89 hp90
                          replace hB := hB.put hp90 hzg2
                          replace hr4 := hr4.put hp90
                          refine rw_p 3 (.bool true) (fun _ => by kernel_rfl) (fun _ => by kernel_rfl) ?_
                          refine rw_nil ?_
                          refine nw_then ?_
                          refine cw_ret ?_
                          refine nw_ret_block ?_
                          refine nw_ret_then ?_
                          have e9 : x = 49 := eq_of_beq hq88
                          subst e9
                          refine nw_ret_body (.tuple #[.agg (#[.string (strOfNums ([100, 117, 112])), .int .i64 1, .int .i64 0, .int .i64 1, .int .u64 1]), .bool true]) (fun _ => res_c2 rfl _ g2 _ _ (by kernel_rfl) (by kernel_rfl) hr4 Tryd.underlying52 rfl (by kernel_rfl)) ?_
                          refine ⟨_, rfl, ?_, hB⟩
                          rfl
                        | false =>
                          have dhq88 := ne_of_beq_false hq88
                          refine cw_cond_f (fun _ => by kernel_rfl) ?_
                          refine cw_seq ?_
                          refine cw_region ?_
                          refine rw_p 50 (.bool ((x : Int) == (50 : Int))) (fun _ => by kernel_rfl) (fun _ => by kernel_rfl) ?_
                          refine rw_p 49 (.bool ((x : Int) == (50 : Int))) (fun _ => by kernel_rfl) (fun _ => by kernel_rfl) ?_
                          refine rw_nil ?_
                          refine nw_then ?_
                          cases hq91 : ((x : Int) == (50 : Int)) with
                          | true =>
                            have dhq91 := eq_of_beq hq91
                            refine cw_cond_t (fun _ => by kernel_rfl) ?_
                            refine cw_seq ?_
                            refine cw_region ?_
                            refine rw_p 51 (.agg #[.string (strOfNums ([115, 119, 97, 112])), .int .i64 1, .int .i64 0, .int .i64 0, .int .u64 1]) (fun _ => by kernel_rfl) (fun _ => by kernel_rfl) ?_
                            refine rw_put g2 (#[.string (strOfNums ([115, 119, 97, 112])), .int .i64 1, .int .i64 0, .int .i64 0, .int .u64 1]) (fun _ => by kernel_rfl) (fun _ => ol_store 52 _ _ _ _ _ 52 rfl (by kernel_rfl) (by kernel_rfl) hr4 (by kernel_rfl) rfl (by kernel_rfl)) ?_
                            intro w92 hp93
                            replace hB := hB.put hp93 hzg2
                            replace hr4 := hr4.put hp93
                            refine rw_p 3 (.bool true) (fun _ => by kernel_rfl) (fun _ => by kernel_rfl) ?_
                            refine rw_nil ?_
                            refine nw_then ?_
                            refine cw_ret ?_
                            refine nw_ret_block ?_
                            refine nw_ret_then ?_
                            have e9 : x = 50 := eq_of_beq hq91
                            subst e9
                            refine nw_ret_body (.tuple #[.agg (#[.string (strOfNums ([115, 119, 97, 112])), .int .i64 1, .int .i64 0, .int .i64 0, .int .u64 1]), .bool true]) (fun _ => res_c2 rfl _ g2 _ _ (by kernel_rfl) (by kernel_rfl) hr4 Tryd.underlying52 rfl (by kernel_rfl)) ?_
                            refine ⟨_, rfl, ?_, hB⟩
                            rfl
                          | false =>
                            have dhq91 := ne_of_beq_false hq91
                            refine cw_cond_f (fun _ => by kernel_rfl) ?_
                            refine cw_seq ?_
                            refine cw_region ?_
                            refine rw_p 53 (.bool ((x : Int) == (64 : Int))) (fun _ => by kernel_rfl) (fun _ => by kernel_rfl) ?_
                            refine rw_p 52 (.bool ((x : Int) == (64 : Int))) (fun _ => by kernel_rfl) (fun _ => by kernel_rfl) ?_
                            refine rw_nil ?_
                            refine nw_then ?_
                            cases hq94 : ((x : Int) == (64 : Int)) with
                            | true =>
                              have dhq94 := eq_of_beq hq94
                              refine cw_cond_t (fun _ => by kernel_rfl) ?_
                              refine cw_seq ?_
                              refine cw_region ?_
                              refine rw_p 54 (.agg #[.string (strOfNums ([106, 117, 109, 112])), .int .i64 0, .int .i64 1, .int .i64 0, .int .u64 3]) (fun _ => by kernel_rfl) (fun _ => by kernel_rfl) ?_
                              refine rw_put g2 (#[.string (strOfNums ([106, 117, 109, 112])), .int .i64 0, .int .i64 1, .int .i64 0, .int .u64 3]) (fun _ => by kernel_rfl) (fun _ => ol_store 52 _ _ _ _ _ 52 rfl (by kernel_rfl) (by kernel_rfl) hr4 (by kernel_rfl) rfl (by kernel_rfl)) ?_
                              intro w95 hp96
                              replace hB := hB.put hp96 hzg2
                              replace hr4 := hr4.put hp96
                              refine rw_p 3 (.bool true) (fun _ => by kernel_rfl) (fun _ => by kernel_rfl) ?_
                              refine rw_nil ?_
                              refine nw_then ?_
                              refine cw_ret ?_
                              refine nw_ret_block ?_
                              refine nw_ret_then ?_
                              have e9 : x = 64 := eq_of_beq hq94
                              subst e9
                              refine nw_ret_body (.tuple #[.agg (#[.string (strOfNums ([106, 117, 109, 112])), .int .i64 0, .int .i64 1, .int .i64 0, .int .u64 3]), .bool true]) (fun _ => res_c2 rfl _ g2 _ _ (by kernel_rfl) (by kernel_rfl) hr4 Tryd.underlying52 rfl (by kernel_rfl)) ?_
                              refine ⟨_, rfl, ?_, hB⟩
                              rfl
                            | false =>
                              have dhq94 := ne_of_beq_false hq94
                              refine cw_cond_f (fun _ => by kernel_rfl) ?_
                              refine cw_seq ?_
                              refine cw_region ?_
                              refine rw_p 56 (.bool ((x : Int) == (65 : Int))) (fun _ => by kernel_rfl) (fun _ => by kernel_rfl) ?_
                              refine rw_p 55 (.bool ((x : Int) == (65 : Int))) (fun _ => by kernel_rfl) (fun _ => by kernel_rfl) ?_
                              refine rw_nil ?_
                              refine nw_then ?_
                              cases hq97 : ((x : Int) == (65 : Int)) with
                              | true =>
                                have dhq97 := eq_of_beq hq97
                                refine cw_cond_t (fun _ => by kernel_rfl) ?_
                                refine cw_seq ?_
                                refine cw_region ?_
                                refine rw_p 57 (.agg #[.string (strOfNums ([106, 117, 109, 112, 105, 102])), .int .i64 0, .int .i64 2, .int .i64 0, .int .u64 3]) (fun _ => by kernel_rfl) (fun _ => by kernel_rfl) ?_
                                refine rw_put g2 (#[.string (strOfNums ([106, 117, 109, 112, 105, 102])), .int .i64 0, .int .i64 2, .int .i64 0, .int .u64 3]) (fun _ => by kernel_rfl) (fun _ => ol_store 52 _ _ _ _ _ 52 rfl (by kernel_rfl) (by kernel_rfl) hr4 (by kernel_rfl) rfl (by kernel_rfl)) ?_
                                intro w98 hp99
                                replace hB := hB.put hp99 hzg2
                                replace hr4 := hr4.put hp99
                                refine rw_p 3 (.bool true) (fun _ => by kernel_rfl) (fun _ => by kernel_rfl) ?_
                                refine rw_nil ?_
                                refine nw_then ?_
                                refine cw_ret ?_
                                refine nw_ret_block ?_
                                refine nw_ret_then ?_
                                have e9 : x = 65 := eq_of_beq hq97
                                subst e9
                                refine nw_ret_body (.tuple #[.agg (#[.string (strOfNums ([106, 117, 109, 112, 105, 102])), .int .i64 0, .int .i64 2, .int .i64 0, .int .u64 3]), .bool true]) (fun _ => res_c2 rfl _ g2 _ _ (by kernel_rfl) (by kernel_rfl) hr4 Tryd.underlying52 rfl (by kernel_rfl)) ?_
                                refine ⟨_, rfl, ?_, hB⟩
                                rfl
                              | false =>
                                have dhq97 := ne_of_beq_false hq97
                                refine cw_cond_f (fun _ => by kernel_rfl) ?_
                                refine cw_seq ?_
                                refine cw_region ?_
                                refine rw_p 59 (.bool ((x : Int) == (66 : Int))) (fun _ => by kernel_rfl) (fun _ => by kernel_rfl) ?_
                                refine rw_p 58 (.bool ((x : Int) == (66 : Int))) (fun _ => by kernel_rfl) (fun _ => by kernel_rfl) ?_
                                refine rw_nil ?_
                                refine nw_then ?_
                                cases hq100 : ((x : Int) == (66 : Int)) with
                                | true =>
                                  have dhq100 := eq_of_beq hq100
                                  refine cw_cond_t (fun _ => by kernel_rfl) ?_
                                  refine cw_seq ?_
                                  refine cw_region ?_
                                  refine rw_p 60 (.agg #[.string (strOfNums ([109, 97, 114, 107])), .int .i64 0, .int .i64 0, .int .i64 0, .int .u64 1]) (fun _ => by kernel_rfl) (fun _ => by kernel_rfl) ?_
                                  refine rw_put g2 (#[.string (strOfNums ([109, 97, 114, 107])), .int .i64 0, .int .i64 0, .int .i64 0, .int .u64 1]) (fun _ => by kernel_rfl) (fun _ => ol_store 52 _ _ _ _ _ 52 rfl (by kernel_rfl) (by kernel_rfl) hr4 (by kernel_rfl) rfl (by kernel_rfl)) ?_
                                  intro w101 hp102
                                  replace hB := hB.put hp102 hzg2
                                  replace hr4 := hr4.put hp102
                                  refine rw_p 3 (.bool true) (fun _ => by kernel_rfl) (fun _ => by kernel_rfl) ?_
                                  refine rw_nil ?_
                                  refine nw_then ?_
                                  refine cw_ret ?_
                                  refine nw_ret_block ?_
                                  refine nw_ret_then ?_
                                  have e9 : x = 66 := eq_of_beq hq100
                                  subst e9
                                  refine nw_ret_body (.tuple #[.agg (#[.string (strOfNums ([109, 97, 114, 107])), .int .i64 0, .int .i64 0, .int .i64 0, .int .u64 1]), .bool true]) (fun _ => res_c2 rfl _ g2 _ _ (by kernel_rfl) (by kernel_rfl) hr4 Tryd.underlying52 rfl (by kernel_rfl)) ?_
                                  refine ⟨_, rfl, ?_, hB⟩
                                  rfl
                                | false =>
                                  have dhq100 := ne_of_beq_false hq100
                                  refine cw_cond_f (fun _ => by kernel_rfl) ?_
                                  refine cw_skip ?_
                                  refine nw_block ?_
                                  refine nw_then ?_
                                  refine cw_seq ?_
                                  refine cw_region ?_
                                  refine rw_p 61 (.int .u8 x) (fun _ => by kernel_rfl) (fun _ => by kernel_rfl) ?_
                                  refine rw_call 62 34 #[.int .u8 x] (fun _ => by kernel_rfl) (fun _ => by kernel_rfl) (R := RVl w1 (.tuple #[.agg (NfV ((ofP x).getD nf0)), .bool (ofP x).isSome])) (rmore hx0 hx1 (by omega) (by omega) w1) ?_
                                  rintro _ w103 ⟨rfl, hb104⟩
                                  replace hB := hB.go hb104
                                  replace hr4 := hr4.go hb104
                                  refine rw_p 63 (.agg (NfV ((ofP x).getD nf0))) (fun _ => by kernel_rfl) (fun _ => by kernel_rfl) ?_
                                  refine rw_p 64 (.bool (ofP x).isSome) (fun _ => by kernel_rfl) (fun _ => by kernel_rfl) ?_
                                  refine rw_put g2 (NfV ((ofP x).getD nf0)) (fun _ => by kernel_rfl) (fun _ => ol_store 52 _ _ _ _ _ 52 rfl (by kernel_rfl) (by kernel_rfl) hr4 (by kernel_rfl) rfl (by kernel_rfl)) ?_
                                  intro w105 hp106
                                  replace hB := hB.put hp106 hzg2
                                  replace hr4 := hr4.put hp106
                                  refine rw_p 3 (.bool (ofP x).isSome) (fun _ => by kernel_rfl) (fun _ => by kernel_rfl) ?_
                                  refine rw_nil ?_
                                  refine nw_then ?_
                                  refine cw_ret ?_
                                  refine nw_ret_body (.tuple #[.agg (NfV ((ofP x).getD nf0)), .bool (ofP x).isSome]) (fun _ => res_c2 rfl _ g2 _ _ (by kernel_rfl) (by kernel_rfl) hr4 Tryd.underlying52 rfl (by kernel_rfl)) ?_
                                  refine ⟨_, rfl, ?_, hB⟩
                                  rfl
theorem rof_no {x : Int} (h : ofP x = none) (hx : 0 ≤ x ∧ x < 256) (w : World) : Calls Tryd.prog 19 #[.int .u8 x] w fun e w' => ∃ v, e = .returned v ∧ RVl w (.tuple #[.agg (NfV nf0), .bool false]) v w' := by
  have := rof hx.1 hx.2 w
  rw [h] at this
  exact this
theorem rof_yes {x : Int} {o : Nf} (h : ofP x = some o) (hx : 0 ≤ x ∧ x < 256) (w : World) : Calls Tryd.prog 19 #[.int .u8 x] w fun e w' => ∃ v, e = .returned v ∧ RVl w (.tuple #[.agg (NfV o), .bool true]) v w' := by
  have := rof hx.1 hx.2 w
  rw [h] at this
  exact this
set_option maxHeartbeats 1000000 in
theorem rpiece_no {a : Option Addr} {n c : Nat} {b : List Int} {p : Nat} {x : Int} {r : List Int} (hd : b.drop p = x :: r) (hx : b.getD p 0 = x) (hof : ofP x = none) (w : World) (h : Ag w a n c b) (hp : p < n) : Calls Tryd.prog 18 #[.slice a n c, .int .i64 ((p : Nat) : Int)] w fun e w' => ∃ v, e = .returned v ∧ RVl w (.tuple #[.int .i64 ((szP (b.drop p) : Nat) : Int), .bool (isP (b.drop p))]) v w' := by
  have hlb := h.l
  have hcap := h.cap
  have hc63 : n ≤ 9223372036854775807 := by obtain ⟨_, _, _, h1, h2, _⟩ := ag_head h (by omega); unfold maxLen at h2; omega
  have hxb : 0 ≤ x ∧ x < 256 := by rw [← hx]; exact byt_get h.b p
  have hrl : r.length + 1 = n - p := by have := congrArg List.length hd; rw [List.length_drop, List.length_cons] at this; omega
  have hB : Bl w w := Bl.refl w
  refine cw_enter Tryd.func18 rfl 31 rfl ?_
  show CW _ _ _ _ _ _ _ [(0, .slice a n c), (1, .int .i64 ((p : Nat) : Int))] _
  refine cw_seq ?_
  refine cw_region ?_
  refine rw_p 4 (.int .i64 0) (fun _ => by kernel_rfl) (fun _ => by kernel_rfl) ?_
  refine rw_p 5 (.bool false) (fun _ => by kernel_rfl) (fun _ => by kernel_rfl) ?_
  refine rw_nil ?_
  refine nw_then ?_
  refine cw_seq ?_
  obtain ⟨gb1, of2, rfl, hc3⟩ := h.at0 (k := p) (by omega)
  rw [hx] at hc3
  refine cw_region ?_
  refine rw_p 9 (.slice (some ⟨gb1, of2, none⟩) n c) (fun _ => by kernel_rfl) (fun _ => by kernel_rfl) ?_
  refine rw_p 10 (.int .i64 ((p : Nat) : Int)) (fun _ => by kernel_rfl) (fun _ => by kernel_rfl) ?_
  refine rw_p 11 (.pointer (some ⟨gb1, of2 + p * 1, none⟩)) (fun _ => by kernel_rfl) (fun _ => ol_index 22 _ _ gb1 of2 p n c 1 5 rfl (by kernel_rfl) (by kernel_rfl) (by omega) Tryd.underlying22 (by kernel_rfl)) ?_
  refine rw_p 12 (.int .u8 x) (fun _ => by kernel_rfl) (fun _ => ol_cell 5 _ ⟨gb1, of2 + p * 1, none⟩ _ _ rfl (by kernel_rfl) hc3 Tryd.underlying5 rfl) ?_
  refine rw_call 13 19 #[.int .u8 x] (fun _ => by kernel_rfl) (fun _ => by kernel_rfl) (R := RVl w (.tuple #[.agg (NfV nf0), .bool false])) (rof_no hof hxb w) ?_
  rintro _ w4 ⟨rfl, hb5⟩
  replace hB := hB.go hb5
  replace h := h.go hb5
  replace hc3 := cell_go hc3 hb5
  refine rw_p 8 (.tuple #[.agg (NfV nf0), .bool false]) (fun _ => by kernel_rfl) (fun _ => by kernel_rfl) ?_
  refine rw_p 14 (.agg (NfV nf0)) (fun _ => by kernel_rfl) (fun _ => by kernel_rfl) ?_
  refine rw_p 15 (.bool false) (fun _ => by kernel_rfl) (fun _ => by kernel_rfl) ?_
  refine rw_new 6 (#[.string (strOfNums []), .int .i64 0, .int .i64 0, .int .i64 0, .int .u64 0]) 52 (fun _ => by kernel_rfl) (fun _ => by kernel_rfl) ?_
  intro w6 g7 hn8
  have hzg7 : w.heap.size ≤ g7 := by have := hB.size; have := hn8.hg; omega
  have hr9 : Rw g7 w6 (#[.string (strOfNums []), .int .i64 0, .int .i64 0, .int .i64 0, .int .u64 0]) 52 := hn8.row
  refine rw_put g7 (NfV nf0) (fun _ => by kernel_rfl) (fun _ => ol_store 52 _ _ _ _ _ 52 rfl (by kernel_rfl) (by kernel_rfl) hr9 (by kernel_rfl) rfl (by kernel_rfl)) ?_
  intro w10 hp11
  have hbg7 : Below w4.heap.size w4 w10 := hp11.below hn8.below (Nat.le_of_eq hn8.hg.symm) (by have := hn8.size; have := hn8.hg; omega)
  replace hB := hB.go hbg7
  replace h := h.go hbg7
  replace hc3 := cell_go hc3 hbg7
  have hr12 : Rw g7 w10 (NfV nf0) 52 := hr9.put hp11
  refine rw_p 7 (.bool false) (fun _ => by kernel_rfl) (fun _ => by kernel_rfl) ?_
  refine rw_nil ?_
  refine nw_then ?_
  refine cw_seq ?_
  refine cw_seq ?_
  refine cw_region ?_
  refine rw_p 16 (.bool false) (fun _ => by kernel_rfl) (fun _ => by kernel_rfl) ?_
  refine rw_p 17 (.bool true) (fun _ => by kernel_rfl) (fun _ => by kernel_rfl) ?_
  refine rw_p 18 (.bool true) (fun _ => by kernel_rfl) (fun _ => by kernel_rfl) ?_
  refine rw_off 19 (fun _ => by kernel_rfl) ?_
  refine rw_off 20 (fun _ => by kernel_rfl) ?_
  refine rw_off 21 (fun _ => by kernel_rfl) ?_
  refine rw_off 22 (fun _ => by kernel_rfl) ?_
  refine rw_off 23 (fun _ => by kernel_rfl) ?_
  refine rw_off 24 (fun _ => by kernel_rfl) ?_
  refine rw_off 25 (fun _ => by kernel_rfl) ?_
  refine rw_off 26 (fun _ => by kernel_rfl) ?_
  refine rw_p 27 (.bool true) (fun _ => by kernel_rfl) (fun _ => by kernel_rfl) ?_
  refine rw_nil ?_
  refine nw_then ?_
  refine cw_cond_t (fun _ => by kernel_rfl) ?_
  refine cw_seq ?_
  refine cw_region ?_
  refine rw_p 4 (.int .i64 1) (fun _ => by kernel_rfl) (fun _ => by kernel_rfl) ?_
  refine rw_p 5 (.bool false) (fun _ => by kernel_rfl) (fun _ => by kernel_rfl) ?_
  refine rw_nil ?_
  refine nw_then ?_
  refine cw_ret ?_
  refine nw_ret_then ?_
  rw [hd, szP_no hof, isP_no hof]
  refine nw_ret_body (.tuple #[.int .i64 1, .bool false]) (fun _ => by kernel_rfl) ?_
  exact ⟨_, rfl, rfl, hB⟩
set_option maxHeartbeats 1000000 in
theorem rpiece_some {a : Option Addr} {n c : Nat} {b : List Int} {p : Nat} {x : Int} {r : List Int} (hd : b.drop p = x :: r) (hx : b.getD p 0 = x) {o : Nf} (hof : ofP x = some o) (w : World) (h : Ag w a n c b) (hp : p < n) : Calls Tryd.prog 18 #[.slice a n c, .int .i64 ((p : Nat) : Int)] w fun e w' => ∃ v, e = .returned v ∧ RVl w (.tuple #[.int .i64 ((szP (b.drop p) : Nat) : Int), .bool (isP (b.drop p))]) v w' := by
  have hlb := h.l
  have hcap := h.cap
  have hc63 : n ≤ 9223372036854775807 := by obtain ⟨_, _, _, h1, h2, _⟩ := ag_head h (by omega); unfold maxLen at h2; omega
  have hxb : 0 ≤ x ∧ x < 256 := by rw [← hx]; exact byt_get h.b p
  have hrl : r.length + 1 = n - p := by have := congrArg List.length hd; rw [List.length_drop, List.length_cons] at this; omega
  obtain ⟨hbh, -⟩ := nf_small hof
  have hB : Bl w w := Bl.refl w
  refine cw_enter Tryd.func18 rfl 31 rfl ?_
  show CW _ _ _ _ _ _ _ [(0, .slice a n c), (1, .int .i64 ((p : Nat) : Int))] _
  refine cw_seq ?_
  refine cw_region ?_
  refine rw_p 4 (.int .i64 0) (fun _ => by kernel_rfl) (fun _ => by kernel_rfl) ?_
  refine rw_p 5 (.bool false) (fun _ => by kernel_rfl) (fun _ => by kernel_rfl) ?_
  refine rw_nil ?_
  refine nw_then ?_
  refine cw_seq ?_
  obtain ⟨gb1, of2, rfl, hc3⟩ := h.at0 (k := p) (by omega)
  rw [hx] at hc3
  refine cw_region ?_
  refine rw_p 9 (.slice (some ⟨gb1, of2, none⟩) n c) (fun _ => by kernel_rfl) (fun _ => by kernel_rfl) ?_
  refine rw_p 10 (.int .i64 ((p : Nat) : Int)) (fun _ => by kernel_rfl) (fun _ => by kernel_rfl) ?_
  refine rw_p 11 (.pointer (some ⟨gb1, of2 + p * 1, none⟩)) (fun _ => by kernel_rfl) (fun _ => ol_index 22 _ _ gb1 of2 p n c 1 5 rfl (by kernel_rfl) (by kernel_rfl) (by omega) Tryd.underlying22 (by kernel_rfl)) ?_
  refine rw_p 12 (.int .u8 x) (fun _ => by kernel_rfl) (fun _ => ol_cell 5 _ ⟨gb1, of2 + p * 1, none⟩ _ _ rfl (by kernel_rfl) hc3 Tryd.underlying5 rfl) ?_
  refine rw_call 13 19 #[.int .u8 x] (fun _ => by kernel_rfl) (fun _ => by kernel_rfl) (R := RVl w (.tuple #[.agg (NfV o), .bool true])) (rof_yes hof hxb w) ?_
  rintro _ w4 ⟨rfl, hb5⟩
  replace hB := hB.go hb5
  replace h := h.go hb5
  replace hc3 := cell_go hc3 hb5
  refine rw_p 8 (.tuple #[.agg (NfV o), .bool true]) (fun _ => by kernel_rfl) (fun _ => by kernel_rfl) ?_
  refine rw_p 14 (.agg (NfV o)) (fun _ => by kernel_rfl) (fun _ => by kernel_rfl) ?_
  refine rw_p 15 (.bool true) (fun _ => by kernel_rfl) (fun _ => by kernel_rfl) ?_
  refine rw_new 6 (#[.string (strOfNums []), .int .i64 0, .int .i64 0, .int .i64 0, .int .u64 0]) 52 (fun _ => by kernel_rfl) (fun _ => by kernel_rfl) ?_
  intro w6 g7 hn8
  have hzg7 : w.heap.size ≤ g7 := by have := hB.size; have := hn8.hg; omega
  have hr9 : Rw g7 w6 (#[.string (strOfNums []), .int .i64 0, .int .i64 0, .int .i64 0, .int .u64 0]) 52 := hn8.row
  refine rw_put g7 (NfV o) (fun _ => by kernel_rfl) (fun _ => ol_store 52 _ _ _ _ _ 52 rfl (by kernel_rfl) (by kernel_rfl) hr9 (by kernel_rfl) rfl (by kernel_rfl)) ?_
  intro w10 hp11
  have hbg7 : Below w4.heap.size w4 w10 := hp11.below hn8.below (Nat.le_of_eq hn8.hg.symm) (by have := hn8.size; have := hn8.hg; omega)
  replace hB := hB.go hbg7
  replace h := h.go hbg7
  replace hc3 := cell_go hc3 hbg7
  have hr12 : Rw g7 w10 (NfV o) 52 := hr9.put hp11
  refine rw_p 7 (.bool true) (fun _ => by kernel_rfl) (fun _ => by kernel_rfl) ?_
  refine rw_nil ?_
  refine nw_then ?_
  refine cw_seq ?_
  refine cw_seq ?_
  refine cw_region ?_
  refine rw_p 16 (.bool true) (fun _ => by kernel_rfl) (fun _ => by kernel_rfl) ?_
  refine rw_p 17 (.bool false) (fun _ => by kernel_rfl) (fun _ => by kernel_rfl) ?_
  refine rw_p 18 (.bool false) (fun _ => by kernel_rfl) (fun _ => by kernel_rfl) ?_
  refine rw_p 19 (.pointer (some ⟨g7, 1, none⟩)) (fun _ => by kernel_rfl) (fun _ => by kernel_rfl) ?_
  refine rw_p 20 (.int .i64 ((o.bh : Nat) : Int)) (fun _ => by kernel_rfl) (fun _ => ol_cell 3 _ ⟨g7, 1, none⟩ _ _ rfl (by kernel_rfl) (by rw [cell_of_row _ _ _ _ _ _ hr12]; rfl) Tryd.underlying3 rfl) ?_
  refine rw_p 21 (.slice (some ⟨gb1, of2, none⟩) n c) (fun _ => by kernel_rfl) (fun _ => by kernel_rfl) ?_
  refine rw_p 22 (.int .i64 ((n : Nat) : Int)) (fun _ => by kernel_rfl) (fun _ => by kernel_rfl) ?_
  refine rw_p 23 (.int .i64 ((p : Nat) : Int)) (fun _ => by kernel_rfl) (fun _ => by kernel_rfl) ?_
  refine rw_p 24 (.int .i64 ((n - p : Nat) : Int)) (fun _ => by kernel_rfl) (fun _ => ol_conv (v := .int .i64 (IntKind.i64.wrap (((n : Nat) : Int) - ((p : Nat) : Int)))) (by kernel_rfl) (congrArg (Value.int .i64) (show IntKind.i64.wrap (((n : Nat) : Int) - ((p : Nat) : Int)) = ((n - p : Nat) : Int) from (wrap64 (by omega) (by omega)).trans (by omega)))) ?_
  refine rw_p 25 (.int .i64 (((n - p) - 1 : Nat) : Int)) (fun _ => by kernel_rfl) (fun _ => ol_conv (v := .int .i64 (IntKind.i64.wrap (((n - p : Nat) : Int) - (1 : Int)))) (by kernel_rfl) (congrArg (Value.int .i64) (show IntKind.i64.wrap (((n - p : Nat) : Int) - (1 : Int)) = (((n - p) - 1 : Nat) : Int) from (wrap64 (by omega) (by omega)).trans (by omega)))) ?_
  refine rw_p 26 (.bool (decide (((o.bh : Nat) : Int) > (((n - p) - 1 : Nat) : Int)))) (fun _ => by kernel_rfl) (fun _ => by kernel_rfl) ?_
  refine rw_p 27 (.bool (decide (((o.bh : Nat) : Int) > (((n - p) - 1 : Nat) : Int)))) (fun _ => by kernel_rfl) (fun _ => by kernel_rfl) ?_
  refine rw_nil ?_
  refine nw_then ?_
  cases hq13 : (decide (((o.bh : Nat) : Int) > (((n - p) - 1 : Nat) : Int))) with
  | true =>
    have dhq13 := of_decide_eq_true hq13
    refine cw_cond_t (fun _ => by kernel_rfl) ?_
    refine cw_seq ?_
    refine cw_region ?_
    refine rw_p 4 (.int .i64 1) (fun _ => by kernel_rfl) (fun _ => by kernel_rfl) ?_
    refine rw_p 5 (.bool false) (fun _ => by kernel_rfl) (fun _ => by kernel_rfl) ?_
    refine rw_nil ?_
    refine nw_then ?_
    refine cw_ret ?_
    refine nw_ret_then ?_
    rw [hd, szP_lt hof (by omega), isP_some hof, decide_eq_true (show r.length < o.bh by omega)]
    refine nw_ret_body (.tuple #[.int .i64 1, .bool false]) (fun _ => by kernel_rfl) ?_
    exact ⟨_, rfl, rfl, hB⟩
  | false =>
    have dhq13 := of_decide_eq_false hq13
    refine cw_cond_f (fun _ => by kernel_rfl) ?_
    refine cw_skip ?_
    refine nw_then ?_
    refine cw_seq ?_
    refine cw_region ?_
    refine rw_p 28 (.pointer (some ⟨g7, 1, none⟩)) (fun _ => by kernel_rfl) (fun _ => by kernel_rfl) ?_
    refine rw_p 29 (.int .i64 ((o.bh : Nat) : Int)) (fun _ => by kernel_rfl) (fun _ => ol_cell 3 _ ⟨g7, 1, none⟩ _ _ rfl (by kernel_rfl) (by rw [cell_of_row _ _ _ _ _ _ hr12]; rfl) Tryd.underlying3 rfl) ?_
    refine rw_p 30 (.int .i64 ((o.bh + 1 : Nat) : Int)) (fun _ => by kernel_rfl) (fun _ => ol_conv (v := .int .i64 (IntKind.i64.wrap (((o.bh : Nat) : Int) + (1 : Int)))) (by kernel_rfl) (congrArg (Value.int .i64) (show IntKind.i64.wrap (((o.bh : Nat) : Int) + (1 : Int)) = ((o.bh + 1 : Nat) : Int) from (wrap64 (by omega) (by omega)).trans (by omega)))) ?_
    refine rw_p 4 (.int .i64 ((o.bh + 1 : Nat) : Int)) (fun _ => by kernel_rfl) (fun _ => by kernel_rfl) ?_
    refine rw_p 5 (.bool true) (fun _ => by kernel_rfl) (fun _ => by kernel_rfl) ?_
    refine rw_nil ?_
    refine nw_then ?_
    refine cw_ret ?_
    rw [hd, szP_ge hof (by omega), isP_some hof, decide_eq_false (show ¬ r.length < o.bh by omega), Nat.add_comm 1 o.bh]
    refine nw_ret_body (.tuple #[.int .i64 ((o.bh + 1 : Nat) : Int), .bool true]) (fun _ => by kernel_rfl) ?_
    exact ⟨_, rfl, rfl, hB⟩
theorem rpiece {a : Option Addr} {n c : Nat} {b : List Int} {p : Nat} (w : World) (h : Ag w a n c b) (hp : p < n) : Calls Tryd.prog 18 #[.slice a n c, .int .i64 ((p : Nat) : Int)] w fun e w' => ∃ v, e = .returned v ∧ RVl w (.tuple #[.int .i64 ((szP (b.drop p) : Nat) : Int), .bool (isP (b.drop p))]) v w' := by
  obtain ⟨r, hd⟩ := drop_cons (b := b) (p := p) (by rw [h.l]; exact hp)
  cases hof : ofP (b.getD p 0) with
  | none => exact rpiece_no hd rfl hof w h hp
  | some o => exact rpiece_some hd rfl hof w h hp
theorem is_mark {b : List Int} {p : Nat} (hp : p < b.length) (h : b.getD p 0 = 66) : isP (b.drop p) = true := by
  obtain ⟨r, hd⟩ := drop_cons hp
  rw [hd, h, isP_some (o := ⟨[109, 97, 114, 107], 0, 0, 0, 1⟩) rfl]
  rfl
end Go.Proofs.YtbjjboicfghldabDoor

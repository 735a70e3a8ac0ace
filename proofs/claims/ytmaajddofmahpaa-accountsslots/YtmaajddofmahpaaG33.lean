/- What the program's Decode of accounts answers. -/
import Derived.Test.YtmaajddofmahpaaG32
import Derived.Test.YtmaajddofmahpaaG22
namespace Go.Proofs.Ytmaajddofmahpaa
open Go.RowKit
open Di (dref)
set_option linter.unusedVariables false
set_option maxRecDepth 100000
end Go.Proofs.Ytmaajddofmahpaa
/- What the document's functions of accounts answer. -/
namespace Go.Proofs.Ytmaajddofmahpaa
open Go.RowKit
open Di (dref)
set_option linter.unusedVariables false
set_option maxRecDepth 100000
/-- The first bytes, and zeros up to 32. -/
def dg (b : List Int) (i : Nat) : List Int := (b.take i ++ List.replicate 32 0).take 32
theorem rwempty (w : World) : Calls Try.prog 14 #[] w fun e w' => ∃ v, e = .returned v ∧ RVl w (.agg (AV eA).toArray) v w' := by
  have hB : Bl w w := Bl.refl w
  refine cw_enter Try.func14 rfl 4 rfl ?_
  show CW _ _ _ _ _ _ _ [] _
  refine cw_seq ?_
  refine cw_region ?_
  refine rw_new 0 ((AV zA).toArray) 26 (fun _ => by kernel_rfl) (fun _ => by kernel_rfl) ?_
  intro w1 g2 hn3
  have hzg2 : w.heap.size ≤ g2 := by have := hB.size; have := hn3.hg; omega
  replace hB := hB.go hn3.below
  have hr4 : Rw g2 w1 ((AV zA).toArray) 26 := hn3.row
  refine rw_nil ?_
  refine nw_then ?_
  refine cw_seq ?_
  refine cw_region ?_
  refine rw_call 1 26 #[] (fun _ => by kernel_rfl) (fun _ => by kernel_rfl) (R := RVl w1 (.agg (B8 (dref [])))) (rwecode w1) ?_
  rintro _ w5 ⟨rfl, hb6⟩
  replace hB := hB.go hb6
  replace hr4 := hr4.go hb6
  refine rw_call 2 27 #[] (fun _ => by kernel_rfl) (fun _ => by kernel_rfl) (R := RVl w5 (.agg (B8 (dref [128])))) (rweroot w5) ?_
  rintro _ w7 ⟨rfl, hb8⟩
  replace hB := hB.go hb8
  replace hr4 := hr4.go hb8
  refine rv 3 (.agg (AV (⟨0, 0, dref [], dref [128]⟩ : PA)).toArray) (fun _ => ol_build 26 _ rfl [(2, .agg (B8 (dref []))), (3, .agg (B8 (dref [128])))] (by kernel_rfl) _ (built_Ae (dref []) (dref [128]) (dref_len _) (dref_len _))) ?_
  refine rw_put g2 ((AV (⟨0, 0, dref [], dref [128]⟩ : PA)).toArray) (fun _ => by kernel_rfl) (fun _ => ol_store 26 _ _ _ _ _ 26 rfl (by kernel_rfl) (by kernel_rfl) hr4 (infoA eA_ok) (AV_size zA_ok eA_ok) (AV_one _)) ?_
  intro w9 hp10
  replace hB := hB.put hp10 hzg2
  replace hr4 := hr4.put hp10
  refine rw_nil ?_
  refine nw_then ?_
  refine cw_ret ?_
  refine nw_ret_body (.agg ((AV (⟨0, 0, dref [], dref [128]⟩ : PA)).toArray)) (fun _ => res_c1 rfl _ g2 _ (by kernel_rfl) hr4 Try.underlying26 rfl (infoA eA_ok)) ?_
  exact ⟨_, rfl, rfl, hB⟩
theorem rwacread {w : World} {x : Option Addr} {n c : Nat} {b : List Int} (h : Ag w x n c b) (hn : n ≤ 140737488351232) : Calls Try.prog 18 #[.slice x n c] w fun e w' => ∃ v, e = .returned v ∧ RVl w (.tuple #[.int .u64 (((Wo.rdP b).1 : Nat) : Int), .int .i64 (if (Wo.rdP b).2 then 0 else 120)]) v w' := by
  have hB : Bl w w := Bl.refl w
  refine cw_enter Try.func18 rfl 14 rfl ?_
  show CW _ _ _ _ _ _ _ [(0, .slice x n c)] _
  refine cw_seq ?_
  refine cw_region ?_
  refine rp 2 (.int .u64 0) ?_
  refine rp 3 (.int .i64 0) ?_
  refine rw_nil ?_
  refine nw_then ?_
  refine cw_seq ?_
  refine cw_region ?_
  refine rp 7 (.slice x n c) ?_
  refine rw_call 8 31 #[.slice x n c] (fun _ => by kernel_rfl) (fun _ => by kernel_rfl) (R := RVl w (.tuple #[.int .u64 (((Wo.rdP b).1 : Nat) : Int), .bool (Wo.rdP b).2])) (rwread h hn) ?_
  rintro _ w1 ⟨rfl, hb2⟩
  replace hB := hB.go hb2
  replace h := h.go hb2
  refine rp 6 (.tuple #[.int .u64 (((Wo.rdP b).1 : Nat) : Int), .bool (Wo.rdP b).2]) ?_
  refine rp 9 (.int .u64 (((Wo.rdP b).1 : Nat) : Int)) ?_
  refine rp 10 (.bool (Wo.rdP b).2) ?_
  refine rp 4 (.int .u64 (((Wo.rdP b).1 : Nat) : Int)) ?_
  refine rp 5 (.bool (Wo.rdP b).2) ?_
  refine rw_nil ?_
  refine nw_then ?_
  refine cw_seq ?_
  refine cw_seq ?_
  refine cw_region ?_
  refine rp 11 (.bool (Wo.rdP b).2) ?_
  refine rp 12 (.bool (!((Wo.rdP b).2))) ?_
  refine rw_nil ?_
  refine nw_then ?_
  cases hq3 : (!((Wo.rdP b).2)) with
  | true =>
    refine cw_cond_t (fun _ => by kernel_rfl) ?_
    refine cw_seq ?_
    refine cw_region ?_
    refine rp 2 (.int .u64 0) ?_
    refine rp 3 (.int .i64 120) ?_
    refine rw_nil ?_
    refine nw_then ?_
    refine cw_ret ?_
    refine nw_ret_then ?_
    refine nw_ret_body (.tuple #[.int .u64 0, .int .i64 120]) (fun _ => by kernel_rfl) ?_
    refine ⟨_, rfl, ?_, hB⟩
    rw [Bool.not_eq_true'] at hq3
    try rw [rd_no hq3]
    simp [hq3]
  | false =>
    refine cw_cond_f (fun _ => by kernel_rfl) ?_
    refine cw_skip ?_
    refine nw_then ?_
    refine cw_seq ?_
    refine cw_region ?_
    refine rp 13 (.int .u64 (((Wo.rdP b).1 : Nat) : Int)) ?_
    refine rp 2 (.int .u64 (((Wo.rdP b).1 : Nat) : Int)) ?_
    refine rp 3 (.int .i64 0) ?_
    refine rw_nil ?_
    refine nw_then ?_
    refine cw_ret ?_
    refine nw_ret_body (.tuple #[.int .u64 (((Wo.rdP b).1 : Nat) : Int), .int .i64 0]) (fun _ => by kernel_rfl) ?_
    refine ⟨_, rfl, ?_, hB⟩
    rw [Bool.not_eq_false'] at hq3
    skip
    simp [hq3]
end Go.Proofs.Ytmaajddofmahpaa

/- What the program's Decode of accounts answers. -/
import Derived.Test.YtmaajddofmahpaaG32
import Derived.Test.YtmaajddofmahpaaG22
namespace Go.Proofs.Ytmaajddofmahpaa
open Go.RowKit
open Di (dref)
set_option linter.unusedVariables false
set_option maxRecDepth 100000
end Go.Proofs.Ytmaajddofmahpaa
/- What the document's functions of accounts answer. -/
namespace Go.Proofs.Ytmaajddofmahpaa
open Go.RowKit
open Di (dref)
set_option linter.unusedVariables false
set_option maxRecDepth 100000
/-- The first bytes, and zeros up to 32. -/
def dg (b : List Int) (i : Nat) : List Int := (b.take i ++ List.replicate 32 0).take 32
theorem rwempty (w : World) : Calls Try.prog 14 #[] w fun e w' => ∃ v, e = .returned v ∧ RVl w (.agg (AV eA).toArray) v w' := by
  have hB : Bl w w := Bl.refl w
  refine cw_enter Try.func14 rfl 4 rfl ?_
  show CW _ _ _ _ _ _ _ [] _
  refine cw_seq ?_
  refine cw_region ?_
  refine rw_new 0 ((AV zA).toArray) 26 (fun _ => by kernel_rfl) (fun _ => by kernel_rfl) ?_
  intro w1 g2 hn3
  have hzg2 : w.heap.size ≤ g2 := by have := hB.size; have := hn3.hg; omega
  replace hB := hB.go hn3.below
  have hr4 : Rw g2 w1 ((AV zA).toArray) 26 := hn3.row
  refine rw_nil ?_
  refine nw_then ?_
  refine cw_seq ?_
  refine cw_region ?_
  refine rw_call 1 26 #[] (fun _ => by kernel_rfl) (fun _ => by kernel_rfl) (R := RVl w1 (.agg (B8 (dref [])))) (rwecode w1) ?_
  rintro _ w5 ⟨rfl, hb6⟩
  replace hB := hB.go hb6
  replace hr4 := hr4.go hb6
  refine rw_call 2 27 #[] (fun _ => by kernel_rfl) (fun _ => by kernel_rfl) (R := RVl w5 (.agg (B8 (dref [128])))) (rweroot w5) ?_
  rintro _ w7 ⟨rfl, hb8⟩
  replace hB := hB.go hb8
  replace hr4 := hr4.go hb8
  refine rv 3 (.agg (AV (⟨0, 0, dref [], dref [128]⟩ : PA)).toArray) (fun _ => ol_build 26 _ rfl [(2, .agg (B8 (dref []))), (3, .agg (B8 (dref [128])))] (by kernel_rfl) _ (built_Ae (dref []) (dref [128]) (dref_len _) (dref_len _))) ?_
  refine rw_put g2 ((AV (⟨0, 0, dref [], dref [128]⟩ : PA)).toArray) (fun _ => by kernel_rfl) (fun _ => ol_store 26 _ _ _ _ _ 26 rfl (by kernel_rfl) (by kernel_rfl) hr4 (infoA eA_ok) (AV_size zA_ok eA_ok) (AV_one _)) ?_
  intro w9 hp10
  replace hB := hB.put hp10 hzg2
  replace hr4 := hr4.put hp10
  refine rw_nil ?_
  refine nw_then ?_
  refine cw_ret ?_
  refine nw_ret_body (.agg ((AV (⟨0, 0, dref [], dref [128]⟩ : PA)).toArray)) (fun _ => res_c1 rfl _ g2 _ (by kernel_rfl) hr4 Try.underlying26 rfl (infoA eA_ok)) ?_
  exact ⟨_, rfl, rfl, hB⟩
end Go.Proofs.Ytmaajddofmahpaa

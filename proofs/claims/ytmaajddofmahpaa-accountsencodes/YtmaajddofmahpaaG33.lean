/- What the program's Decode of accounts answers. -/
import Derived.Test.YtmaajddofmahpaaG32
import Derived.Test.YtmaajddofmahpaaG22
namespace Go.Proofs.Ytmaajddofmahpaa
open Go.RowKit
open Di (dref)
set_option linter.unusedVariables false
set_option maxRecDepth 100000
end Go.Proofs.Ytmaajddofmahpaa
/- What the document's functions of accounts answer. -/
namespace Go.Proofs.Ytmaajddofmahpaa
open Go.RowKit
open Di (dref)
set_option linter.unusedVariables false
set_option maxRecDepth 100000
/-- The first bytes, and zeros up to 32. -/
def dg (b : List Int) (i : Nat) : List Int := (b.take i ++ List.replicate 32 0).take 32
theorem rwempty (w : World) : Calls Try.prog 14 #[] w fun e w' => ∃ v, e = .returned v ∧ RVl w (.agg (AV eA).toArray) v w' := by
  have hB : Bl w w := Bl.refl w
  refine cw_enter Try.func14 rfl 4 rfl ?_
  show CW _ _ _ _ _ _ _ [] _
  refine cw_seq ?_
  refine cw_region ?_
  refine rw_new 0 ((AV zA).toArray) 26 (fun _ => by kernel_rfl) (fun _ => by kernel_rfl) ?_
  intro w1 g2 hn3
  have hzg2 : w.heap.size ≤ g2 := by have := hB.size; have := hn3.hg; omega
  replace hB := hB.go hn3.below
  have hr4 : Rw g2 w1 ((AV zA).toArray) 26 := hn3.row
  refine rw_nil ?_
  refine nw_then ?_
  refine cw_seq ?_
  refine cw_region ?_
  refine rw_call 1 26 #[] (fun _ => by kernel_rfl) (fun _ => by kernel_rfl) (R := RVl w1 (.agg (B8 (dref [])))) (rwecode w1) ?_
  rintro _ w5 ⟨rfl, hb6⟩
  replace hB := hB.go hb6
  replace hr4 := hr4.go hb6
  refine rw_call 2 27 #[] (fun _ => by kernel_rfl) (fun _ => by kernel_rfl) (R := RVl w5 (.agg (B8 (dref [128])))) (rweroot w5) ?_
  rintro _ w7 ⟨rfl, hb8⟩
  replace hB := hB.go hb8
  replace hr4 := hr4.go hb8
  refine rv 3 (.agg (AV (⟨0, 0, dref [], dref [128]⟩ : PA)).toArray) (fun _ => ol_build 26 _ rfl [(2, .agg (B8 (dref []))), (3, .agg (B8 (dref [128])))] (by kernel_rfl) _ (built_Ae (dref []) (dref [128]) (dref_len _) (dref_len _))) ?_
  refine rw_put g2 ((AV (⟨0, 0, dref [], dref [128]⟩ : PA)).toArray) (fun _ => by kernel_rfl) (fun _ => ol_store 26 _ _ _ _ _ 26 rfl (by kernel_rfl) (by kernel_rfl) hr4 (infoA eA_ok) (AV_size zA_ok eA_ok) (AV_one _)) ?_
  intro w9 hp10
  replace hB := hB.put hp10 hzg2
  replace hr4 := hr4.put hp10
  refine rw_nil ?_
  refine nw_then ?_
  refine cw_ret ?_
  refine nw_ret_body (.agg ((AV (⟨0, 0, dref [], dref [128]⟩ : PA)).toArray)) (fun _ => res_c1 rfl _ g2 _ (by kernel_rfl) hr4 Try.underlying26 rfl (infoA eA_ok)) ?_
  exact ⟨_, rfl, rfl, hB⟩
theorem rwtext (w : World) (x : Option Addr) (n c : Nat) : Calls Try.prog 25 #[.slice x n c] w fun e w' => ∃ v, e = .returned v ∧ RVl w (.agg (IV (⟨false, x, n, c, none, 0, 0⟩ : V))) v w' := by
  have hB : Bl w w := Bl.refl w
  refine cw_enter Try.func25 rfl 5 rfl ?_
  show CW _ _ _ _ _ _ _ [(0, .slice x n c)] _
  refine cw_seq ?_
  refine cw_region ?_
  refine rw_new 2 (#[.bool false, .slice none 0 0, .slice none 0 0]) 46 (fun _ => by kernel_rfl) (fun _ => by kernel_rfl) ?_
  intro w1 g2 hn3
  have hzg2 : w.heap.size ≤ g2 := by have := hB.size; have := hn3.hg; omega
  replace hB := hB.go hn3.below
  have hr4 : Rw g2 w1 (#[.bool false, .slice none 0 0, .slice none 0 0]) 46 := hn3.row
  refine rw_nil ?_
  refine nw_then ?_
  refine cw_seq ?_
  refine cw_region ?_
  refine rp 3 (.slice x n c) ?_
  refine rp 4 (.agg #[.bool false, .slice x n c, .slice none 0 0]) ?_
  refine rw_put g2 (#[.bool false, .slice x n c, .slice none 0 0]) (fun _ => by kernel_rfl) (fun _ => ol_store 46 _ _ _ _ _ 46 rfl (by kernel_rfl) (by kernel_rfl) hr4 (by kernel_rfl) (by kernel_rfl) (by kernel_rfl)) ?_
  intro w5 hp6
  replace hB := hB.put hp6 hzg2
  replace hr4 := hr4.put hp6
  refine rw_nil ?_
  refine nw_then ?_
  refine cw_ret ?_
  refine nw_ret_body (.agg (#[.bool false, .slice x n c, .slice none 0 0])) (fun _ => res_c1 rfl _ g2 _ (by kernel_rfl) hr4 Try.underlying46 rfl (by kernel_rfl)) ?_
  exact ⟨_, rfl, rfl, hB⟩
set_option maxHeartbeats 1000000 in
theorem rwenc (a : PA) (ok : okA a) (w : World) : Calls Try.prog 12 #[.agg (AV a).toArray] w fun e w' => ∃ v, e = .returned v ∧ RSl w (enA a) v w' := by
  have hB : Bl w w := Bl.refl w
  refine cw_enter Try.func12 rfl 28 rfl ?_
  show CW _ _ _ _ _ _ _ [(0, .agg (AV a).toArray)] _
  refine cw_seq ?_
  refine cw_region ?_
  refine rw_new 1 ((AV a).toArray) 26 (fun _ => by kernel_rfl) (fun _ => by kernel_rfl) ?_
  intro w1 g2 hn3
  have hzg2 : w.heap.size ≤ g2 := by have := hB.size; have := hn3.hg; omega
  replace hB := hB.go hn3.below
  have hr4 : Rw g2 w1 ((AV a).toArray) 26 := hn3.row
  refine rp 2 (.slice none 0 0) ?_
  refine rw_nil ?_
  refine nw_then ?_
  refine cw_seq ?_
  refine cw_region ?_
  refine rp 3 (.slice none 0 0) ?_
  refine rp 4 (.slice none 0 0) ?_
  refine rw_nil ?_
  refine nw_then ?_
  refine cw_seq ?_
  have ha5 := code_ag hr4 ok
  refine cw_region ?_
  refine rp 5 (.slice none 0 0) ?_
  refine rp 6 (.pointer (some ⟨g2, 2, none⟩)) ?_
  refine rp 7 (.slice (some ⟨g2, 2, none⟩) 32 32) ?_
  obtain ⟨a6, c7, w8, hr9, ha10, hb11⟩ := app_nil ha5 (by omega)
  refine rw_v 8 (.slice a6 32 c7) (fun _ => by kernel_rfl) (fun _ => ol_app hr9 _ _ rfl (by kernel_rfl) (by kernel_rfl)) ?_
  replace hB := hB.go hb11
  replace hr4 := hr4.go hb11
  replace ha5 := ha5.go hb11
  refine rp 3 (.slice a6 32 c7) ?_
  refine rw_nil ?_
  refine nw_then ?_
  refine cw_seq ?_
  have ha12 := stor_ag hr4 ok
  refine cw_region ?_
  refine rp 9 (.slice none 0 0) ?_
  refine rp 10 (.pointer (some ⟨g2, 34, none⟩)) ?_
  refine rp 11 (.slice (some ⟨g2, 34, none⟩) 32 32) ?_
  obtain ⟨a13, c14, w15, hr16, ha17, hb18⟩ := app_nil ha12 (by omega)
  refine rw_v 12 (.slice a13 32 c14) (fun _ => by kernel_rfl) (fun _ => ol_app hr16 _ _ rfl (by kernel_rfl) (by kernel_rfl)) ?_
  replace hB := hB.go hb18
  replace hr4 := hr4.go hb18
  replace ha5 := ha5.go hb18
  replace ha10 := ha10.go hb18
  replace ha12 := ha12.go hb18
  refine rp 4 (.slice a13 32 c14) ?_
  refine rw_nil ?_
  refine nw_then ?_
  refine cw_seq ?_
  refine cw_draw (fun v => Rw g2 v (AV a).toArray 26) (by kernel_rfl) (hr4) ?_
  replace hB := hB.go (Below.refl _ _).drew
  replace hr4 := hr4.go (Below.refl _ _).drew
  replace ha5 := ha5.go (Below.refl _ _).drew
  replace ha10 := ha10.go (Below.refl _ _).drew
  replace ha12 := ha12.go (Below.refl _ _).drew
  replace ha17 := ha17.go (Below.refl _ _).drew
  refine dt 0 13 (.pointer (some ⟨g2, 0, none⟩)) (fun v hv _ => by kernel_rfl) hr4 ?_
  refine dt 1 14 (.int .u64 ((a.n : Nat) : Int)) (fun v hv _ => ol_cell 22 _ ⟨g2, 0, none⟩ _ _ rfl (by kernel_rfl) (by rw [cell_of_row _ _ _ _ _ _ hv]; rfl) Try.underlying22 rfl) hr4 ?_
  refine dt 4 17 (.pointer (some ⟨g2, 1, none⟩)) (fun v hv _ => by kernel_rfl) hr4 ?_
  refine dt 5 18 (.int .u64 ((a.b : Nat) : Int)) (fun v hv _ => ol_cell 22 _ ⟨g2, 1, none⟩ _ _ rfl (by kernel_rfl) (by rw [cell_of_row _ _ _ _ _ _ hv]; rfl) Try.underlying22 rfl) hr4 ?_
  refine dt 8 21 (.slice a6 32 c7) (fun v hv _ => by kernel_rfl) hr4 ?_
  refine dt 10 23 (.slice a13 32 c14) (fun v hv _ => by kernel_rfl) hr4 ?_
  refine dw_ready [2] (by kernel_rfl) (by simp) ?_
  refine ar_call 2 15 20 #[.int .u64 ((a.n : Nat) : Int)] rfl (fun _ => by kernel_rfl) (fun _ => by kernel_rfl) (R := RSl w15.drew (be a.n)) (rwbytes a.n ok.n w15.drew) (fun u w' h => hr4.go h.2) ?_ ar_nil
  rintro _ w22 ⟨⟨a19, n20, c21, rfl, ha23⟩, hb24⟩
  replace hB := hB.go hb24
  replace hr4 := hr4.go hb24
  replace ha5 := ha5.go hb24
  replace ha10 := ha10.go hb24
  replace ha12 := ha12.go hb24
  replace ha17 := ha17.go hb24
  refine dw_ready [3] (by kernel_rfl) (by simp) ?_
  refine ar_call 3 16 25 #[.slice a19 n20 c21] rfl (fun _ => by kernel_rfl) (fun _ => by kernel_rfl) (R := RVl w22 (.agg (IV (⟨false, a19, n20, c21, none, 0, 0⟩ : V)))) (rwtext w22 a19 n20 c21) (fun u w' h => hr4.go h.2) ?_ ar_nil
  rintro _ w25 ⟨rfl, hb26⟩
  replace hB := hB.go hb26
  replace hr4 := hr4.go hb26
  replace ha5 := ha5.go hb26
  replace ha10 := ha10.go hb26
  replace ha12 := ha12.go hb26
  replace ha17 := ha17.go hb26
  replace ha23 := ha23.go hb26
  refine dw_ready [6] (by kernel_rfl) (by simp) ?_
  refine ar_call 6 19 20 #[.int .u64 ((a.b : Nat) : Int)] rfl (fun _ => by kernel_rfl) (fun _ => by kernel_rfl) (R := RSl w25 (be a.b)) (rwbytes a.b ok.b w25) (fun u w' h => hr4.go h.2) ?_ ar_nil
  rintro _ w30 ⟨⟨a27, n28, c29, rfl, ha31⟩, hb32⟩
  replace hB := hB.go hb32
  replace hr4 := hr4.go hb32
  replace ha5 := ha5.go hb32
  replace ha10 := ha10.go hb32
  replace ha12 := ha12.go hb32
  replace ha17 := ha17.go hb32
  replace ha23 := ha23.go hb32
  refine dw_ready [7] (by kernel_rfl) (by simp) ?_
  refine ar_call 7 20 25 #[.slice a27 n28 c29] rfl (fun _ => by kernel_rfl) (fun _ => by kernel_rfl) (R := RVl w30 (.agg (IV (⟨false, a27, n28, c29, none, 0, 0⟩ : V)))) (rwtext w30 a27 n28 c29) (fun u w' h => hr4.go h.2) ?_ ar_nil
  rintro _ w33 ⟨rfl, hb34⟩
  replace hB := hB.go hb34
  replace hr4 := hr4.go hb34
  replace ha5 := ha5.go hb34
  replace ha10 := ha10.go hb34
  replace ha12 := ha12.go hb34
  replace ha17 := ha17.go hb34
  replace ha23 := ha23.go hb34
  replace ha31 := ha31.go hb34
  refine dw_ready [9] (by kernel_rfl) (by simp) ?_
  refine ar_call 9 22 25 #[.slice a6 32 c7] rfl (fun _ => by kernel_rfl) (fun _ => by kernel_rfl) (R := RVl w33 (.agg (IV (⟨false, a6, 32, c7, none, 0, 0⟩ : V)))) (rwtext w33 a6 32 c7) (fun u w' h => hr4.go h.2) ?_ ar_nil
  rintro _ w35 ⟨rfl, hb36⟩
  replace hB := hB.go hb36
  replace hr4 := hr4.go hb36
  replace ha5 := ha5.go hb36
  replace ha10 := ha10.go hb36
  replace ha12 := ha12.go hb36
  replace ha17 := ha17.go hb36
  replace ha23 := ha23.go hb36
  replace ha31 := ha31.go hb36
  refine dw_ready [11] (by kernel_rfl) (by simp) ?_
  refine ar_call 11 24 25 #[.slice a13 32 c14] rfl (fun _ => by kernel_rfl) (fun _ => by kernel_rfl) (R := RVl w35 (.agg (IV (⟨false, a13, 32, c14, none, 0, 0⟩ : V)))) (rwtext w35 a13 32 c14) (fun u w' h => hr4.go h.2) ?_ ar_nil
  rintro _ w37 ⟨rfl, hb38⟩
  replace hB := hB.go hb38
  replace hr4 := hr4.go hb38
  replace ha5 := ha5.go hb38
  replace ha10 := ha10.go hb38
  replace ha12 := ha12.go hb38
  replace ha17 := ha17.go hb38
  replace ha23 := ha23.go hb38
  replace ha31 := ha31.go hb38
  refine dw_ready [12] (by kernel_rfl) (by simp) ?_
  refine ar_newS 12 25 (IV4 (⟨false, a19, n20, c21, none, 0, 0⟩ : V) (⟨false, a27, n28, c29, none, 0, 0⟩ : V) (⟨false, a6, 32, c7, none, 0, 0⟩ : V) (⟨false, a13, 32, c14, none, 0, 0⟩ : V)) 46 4 rfl (fun _ => by kernel_rfl) (fun _ => by kernel_rfl) (fun w' g h => hr4.go h.below) ?_ ar_nil
  intro w39 g40 hn41
  replace hB := hB.go hn41.below
  replace hr4 := hr4.go hn41.below
  replace ha5 := ha5.go hn41.below
  replace ha10 := ha10.go hn41.below
  replace ha12 := ha12.go hn41.below
  replace ha17 := ha17.go hn41.below
  replace ha23 := ha23.go hn41.below
  replace ha31 := ha31.go hn41.below
  have hr42 : Rw g40 w39 (IV4 (⟨false, a19, n20, c21, none, 0, 0⟩ : V) (⟨false, a27, n28, c29, none, 0, 0⟩ : V) (⟨false, a6, 32, c7, none, 0, 0⟩ : V) (⟨false, a13, 32, c14, none, 0, 0⟩ : V)) 46 := hn41.row
  have hl43 : Lies w39 (itA a) ⟨true, none, 0, 0, some ⟨g40, 0, none⟩, 4, 4⟩ := lies_list4 hr42 (lies_tx ha23 (by have := ha23.l; have := be_b8 ok.n; omega)) (lies_tx ha31 (by have := ha31.l; have := be_b8 ok.b; omega)) (lies_tx ha10 (by omega)) (lies_tx ha17 (by omega))
  refine dt 13 26 (.agg #[.bool true, .slice none 0 0, .slice (some ⟨g40, 0, none⟩) 4 4]) (fun v hv => (fun _ => by kernel_rfl)) hr4 ?_
  refine dw_ready [14] (by kernel_rfl) (by simp) ?_
  refine ar_call 14 27 24 #[.agg #[.bool true, .slice none 0 0, .slice (some ⟨g40, 0, none⟩) 4 4]] rfl (fun _ => by kernel_rfl) (fun _ => by kernel_rfl) (R := RSl w39 (enA a)) (rwencode (y := ⟨true, none, 0, 0, some ⟨g40, 0, none⟩, 4, 4⟩) ok hl43) (fun u w' h => hr4.go h.2) ?_ ar_nil
  rintro _ w47 ⟨⟨a44, n45, c46, rfl, ha48⟩, hb49⟩
  replace hB := hB.go hb49
  replace hr4 := hr4.go hb49
  replace ha5 := ha5.go hb49
  replace ha10 := ha10.go hb49
  replace ha12 := ha12.go hb49
  replace ha17 := ha17.go hb49
  replace ha23 := ha23.go hb49
  replace ha31 := ha31.go hb49
  refine dt 15 2 (.slice a44 n45 c46) (fun v hv _ => by kernel_rfl) hr4 ?_
  refine dw_done (by kernel_rfl) ?_
  refine nw_then ?_
  refine cw_ret ?_
  refine nw_ret_body (.slice a44 n45 c46) (fun _ => by kernel_rfl) ?_
  exact ⟨_, rfl, ⟨_, _, _, rfl, ha48⟩, hB⟩
end Go.Proofs.Ytmaajddofmahpaa

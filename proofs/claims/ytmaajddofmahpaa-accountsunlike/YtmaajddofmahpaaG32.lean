/- What the program's functions of accounts answer. -/
import Derived.Test.YtmaajddofmahpaaG31
import Derived.Test.YtmaajddofmahpaaG22
namespace Go.Proofs.Ytmaajddofmahpaa
open Go.RowKit
open Di (dref)
set_option linter.unusedVariables false
set_option maxRecDepth 100000
theorem wempty (w : World) : Calls Try.prog 21 #[] w fun e w' => ∃ v, e = .returned v ∧ RVl w (.agg (AV eA).toArray) v w' := by
  have hB : Bl w w := Bl.refl w
  refine cw_enter Try.func21 rfl 4 rfl ?_
  show CW _ _ _ _ _ _ _ [] _
  refine cw_seq ?_
  refine cw_region ?_
  refine rw_new 0 ((AV zA).toArray) 26 (fun _ => by kernel_rfl) (fun _ => by kernel_rfl) ?_
  intro w1 g2 hn3
  have hzg2 : w.heap.size ≤ g2 := by have := hB.size; have := hn3.hg; omega
  replace hB := hB.go hn3.below
  have hr4 : Rw g2 w1 ((AV zA).toArray) 26 := hn3.row
  refine rw_nil ?_
  refine nw_then ?_
  refine cw_seq ?_
  refine cw_region ?_
  refine rw_call 1 35 #[] (fun _ => by kernel_rfl) (fun _ => by kernel_rfl) (R := RVl w1 (.agg (B8 (dref [])))) (wecode w1) ?_
  rintro _ w5 ⟨rfl, hb6⟩
  replace hB := hB.go hb6
  replace hr4 := hr4.go hb6
  refine rw_call 2 36 #[] (fun _ => by kernel_rfl) (fun _ => by kernel_rfl) (R := RVl w5 (.agg (B8 (dref [128])))) (weroot w5) ?_
  rintro _ w7 ⟨rfl, hb8⟩
  replace hB := hB.go hb8
  replace hr4 := hr4.go hb8
  refine rv 3 (.agg (AV (⟨0, 0, dref [], dref [128]⟩ : PA)).toArray) (fun _ => ol_build 26 _ rfl [(2, .agg (B8 (dref []))), (3, .agg (B8 (dref [128])))] (by kernel_rfl) _ (built_Ae (dref []) (dref [128]) (dref_len _) (dref_len _))) ?_
  refine rw_put g2 ((AV (⟨0, 0, dref [], dref [128]⟩ : PA)).toArray) (fun _ => by kernel_rfl) (fun _ => ol_store 26 _ _ _ _ _ 26 rfl (by kernel_rfl) (by kernel_rfl) hr4 (infoA eA_ok) (AV_size zA_ok eA_ok) (AV_one _)) ?_
  intro w9 hp10
  replace hB := hB.put hp10 hzg2
  replace hr4 := hr4.put hp10
  refine rw_nil ?_
  refine nw_then ?_
  refine cw_ret ?_
  refine nw_ret_body (.agg ((AV (⟨0, 0, dref [], dref [128]⟩ : PA)).toArray)) (fun _ => res_c1 rfl _ g2 _ (by kernel_rfl) hr4 Try.underlying26 rfl (infoA eA_ok)) ?_
  exact ⟨_, rfl, rfl, hB⟩
theorem wis (a : PA) (ok : okA a) (w : World) : Calls Try.prog 13 #[.agg (AV a).toArray] w fun e w' => ∃ v, e = .returned v ∧ RVl w (.bool (eqP a eA)) v w' := by
  have hB : Bl w w := Bl.refl w
  refine cw_enter Try.func13 rfl 6 rfl ?_
  show CW _ _ _ _ _ _ _ [(0, .agg (AV a).toArray)] _
  refine cw_seq ?_
  refine cw_region ?_
  refine rw_new 1 ((AV a).toArray) 26 (fun _ => by kernel_rfl) (fun _ => by kernel_rfl) ?_
  intro w1 g2 hn3
  have hzg2 : w.heap.size ≤ g2 := by have := hB.size; have := hn3.hg; omega
  replace hB := hB.go hn3.below
  have hr4 : Rw g2 w1 ((AV a).toArray) 26 := hn3.row
  refine rp 2 (.bool false) ?_
  refine rw_nil ?_
  refine nw_then ?_
  refine cw_seq ?_
  refine cw_draw (fun v => Rw g2 v (AV a).toArray 26) (by kernel_rfl) (hr4) ?_
  replace hB := hB.go (Below.refl _ _).drew
  replace hr4 := hr4.go (Below.refl _ _).drew
  refine dt 0 3 (.agg ((AV a).toArray)) (fun v hv _ => ol_row 26 _ _ _ _ _ _ rfl (by kernel_rfl) hv Try.underlying26 rfl (infoA ok)) hr4 ?_
  refine dw_ready [1] (by kernel_rfl) (by simp) ?_
  refine ar_call 1 4 21 #[] rfl (fun _ => by kernel_rfl) (fun _ => by kernel_rfl) (R := RVl w1.drew (.agg (AV eA).toArray)) (wempty w1.drew) (fun u w' h => hr4.go h.2) ?_ ar_nil
  rintro _ w5 ⟨rfl, hb6⟩
  replace hB := hB.go hb6
  replace hr4 := hr4.go hb6
  refine dt 2 5 (.bool (eqP a eA)) (fun v hv => (fun _ => ol_eqlA rfl (by kernel_rfl) (by kernel_rfl) ok eA_ok)) hr4 ?_
  refine dt 3 2 (.bool (eqP a eA)) (fun v hv _ => by kernel_rfl) hr4 ?_
  refine dw_done (by kernel_rfl) ?_
  refine nw_then ?_
  refine cw_ret ?_
  refine nw_ret_body (.bool (eqP a eA)) (fun _ => by kernel_rfl) ?_
  exact ⟨_, rfl, rfl, hB⟩
set_option maxHeartbeats 1000000 in
theorem witem (a : PA) (ok : okA a) (w : World) : Calls Try.prog 23 #[.agg (AV a).toArray] w fun e w' => ∃ v, e = .returned v ∧ (∃ y : V, v = .agg (IV y) ∧ Lies w' (itA a) y) ∧ Bl w w' := by
  have hB : Bl w w := Bl.refl w
  refine cw_enter Try.func23 rfl 19 rfl ?_
  show CW _ _ _ _ _ _ _ [(0, .agg (AV a).toArray)] _
  refine cw_seq ?_
  refine cw_region ?_
  refine rw_new 1 ((AV a).toArray) 26 (fun _ => by kernel_rfl) (fun _ => by kernel_rfl) ?_
  intro w1 g2 hn3
  have hzg2 : w.heap.size ≤ g2 := by have := hB.size; have := hn3.hg; omega
  replace hB := hB.go hn3.below
  have hr4 : Rw g2 w1 ((AV a).toArray) 26 := hn3.row
  refine rw_new 2 (#[.bool false, .slice none 0 0, .slice none 0 0]) 46 (fun _ => by kernel_rfl) (fun _ => by kernel_rfl) ?_
  intro w5 g6 hn7
  have hlg2g6 : g2 < g6 := by have := hr4.lt; have := hn7.hg; omega
  have hzg6 : w.heap.size ≤ g6 := by have := hB.size; have := hn7.hg; omega
  replace hB := hB.go hn7.below
  replace hr4 := hr4.go hn7.below
  have hr8 : Rw g6 w5 (#[.bool false, .slice none 0 0, .slice none 0 0]) 46 := hn7.row
  refine rw_nil ?_
  refine nw_then ?_
  refine cw_seq ?_
  obtain ⟨wN, hwN⟩ : ∃ v, w5 = v := ⟨_, rfl⟩
  have hN : Bl wN w5 := by rw [hwN]; exact Bl.refl _
  have hgi : g6 < wN.heap.size := by rw [← hwN]; exact hr8.lt
  have hne : g2 < g6 := by omega
  refine cw_draw (fun v => Rw g2 v (AV a).toArray 26) (by kernel_rfl) (hr4) ?_
  replace hB := hB.go (Below.refl _ _).drew
  replace hr4 := hr4.go (Below.refl _ _).drew
  replace hr8 := hr8.go (Below.refl _ _).drew
  replace hN := hN.go (Below.refl _ _).drew
  refine dt 0 3 (.pointer (some ⟨g2, 0, none⟩)) (fun v hv _ => by kernel_rfl) hr4 ?_
  refine dt 1 4 (.int .u64 ((a.n : Nat) : Int)) (fun v hv _ => ol_cell 22 _ ⟨g2, 0, none⟩ _ _ rfl (by kernel_rfl) (by rw [cell_of_row _ _ _ _ _ _ hv]; rfl) Try.underlying22 rfl) hr4 ?_
  refine dt 4 7 (.pointer (some ⟨g2, 1, none⟩)) (fun v hv _ => by kernel_rfl) hr4 ?_
  refine dt 5 8 (.int .u64 ((a.b : Nat) : Int)) (fun v hv _ => ol_cell 22 _ ⟨g2, 1, none⟩ _ _ rfl (by kernel_rfl) (by rw [cell_of_row _ _ _ _ _ _ hv]; rfl) Try.underlying22 rfl) hr4 ?_
  refine dt 8 11 (.pointer (some ⟨g2, 2, none⟩)) (fun v hv _ => by kernel_rfl) hr4 ?_
  have ha9 := code_ag hr4 ok
  refine dt 9 12 (.slice (some ⟨g2, 2, none⟩) 32 32) (fun v hv _ => by kernel_rfl) hr4 ?_
  refine dt 11 14 (.pointer (some ⟨g2, 34, none⟩)) (fun v hv _ => by kernel_rfl) hr4 ?_
  have ha10 := stor_ag hr4 ok
  refine dt 12 15 (.slice (some ⟨g2, 34, none⟩) 32 32) (fun v hv _ => by kernel_rfl) hr4 ?_
  refine dw_ready [2] (by kernel_rfl) (by simp) ?_
  refine ar_call 2 5 34 #[.int .u64 ((a.n : Nat) : Int)] rfl (fun _ => by kernel_rfl) (fun _ => by kernel_rfl) (R := RSl w5.drew (be a.n)) (wbytes a.n ok.n w5.drew) (fun u w' h => hr4.go h.2) ?_ ar_nil
  rintro _ w14 ⟨⟨a11, n12, c13, rfl, ha15⟩, hb16⟩
  replace hB := hB.go hb16
  replace hr4 := hr4.go hb16
  replace hr8 := hr8.go hb16
  replace hN := hN.go hb16
  replace ha9 := ha9.go hb16
  replace ha10 := ha10.go hb16
  refine dw_ready [3] (by kernel_rfl) (by simp) ?_
  refine ar_call 3 6 40 #[.slice a11 n12 c13] rfl (fun _ => by kernel_rfl) (fun _ => by kernel_rfl) (R := RIt wN.heap.size w14 (tx (be a.n))) (wtext ha15 (by have := ha15.l; have := be_b8 ok.n; omega) (N := wN.heap.size) (hN.size)) (fun u w' h => hr4.go h.2) ?_ ar_nil
  rintro _ w18 ⟨⟨y17, rfl, hl19⟩, hb20⟩
  replace hB := hB.go hb20
  replace hr4 := hr4.go hb20
  replace hr8 := hr8.go hb20
  replace hN := hN.go hb20
  replace ha9 := ha9.go hb20
  replace ha10 := ha10.go hb20
  replace ha15 := ha15.go hb20
  refine dw_ready [6] (by kernel_rfl) (by simp) ?_
  refine ar_call 6 9 34 #[.int .u64 ((a.b : Nat) : Int)] rfl (fun _ => by kernel_rfl) (fun _ => by kernel_rfl) (R := RSl w18 (be a.b)) (wbytes a.b ok.b w18) (fun u w' h => hr4.go h.2) ?_ ar_nil
  rintro _ w24 ⟨⟨a21, n22, c23, rfl, ha25⟩, hb26⟩
  replace hB := hB.go hb26
  replace hr4 := hr4.go hb26
  replace hr8 := hr8.go hb26
  replace hN := hN.go hb26
  replace ha9 := ha9.go hb26
  replace ha10 := ha10.go hb26
  replace ha15 := ha15.go hb26
  replace hl19 := lp_go hl19 hb26
  refine dw_ready [7] (by kernel_rfl) (by simp) ?_
  refine ar_call 7 10 40 #[.slice a21 n22 c23] rfl (fun _ => by kernel_rfl) (fun _ => by kernel_rfl) (R := RIt wN.heap.size w24 (tx (be a.b))) (wtext ha25 (by have := ha25.l; have := be_b8 ok.b; omega) (N := wN.heap.size) (hN.size)) (fun u w' h => hr4.go h.2) ?_ ar_nil
  rintro _ w28 ⟨⟨y27, rfl, hl29⟩, hb30⟩
  replace hB := hB.go hb30
  replace hr4 := hr4.go hb30
  replace hr8 := hr8.go hb30
  replace hN := hN.go hb30
  replace ha9 := ha9.go hb30
  replace ha10 := ha10.go hb30
  replace ha15 := ha15.go hb30
  replace hl19 := lp_go hl19 hb30
  replace ha25 := ha25.go hb30
  refine dw_ready [10] (by kernel_rfl) (by simp) ?_
  refine ar_call 10 13 40 #[.slice (some ⟨g2, 2, none⟩) 32 32] rfl (fun _ => by kernel_rfl) (fun _ => by kernel_rfl) (R := RIt wN.heap.size w28 (tx a.c)) (wtext ha9 (by omega) (N := wN.heap.size) (hN.size)) (fun u w' h => hr4.go h.2) ?_ ar_nil
  rintro _ w32 ⟨⟨y31, rfl, hl33⟩, hb34⟩
  replace hB := hB.go hb34
  replace hr4 := hr4.go hb34
  replace hr8 := hr8.go hb34
  replace hN := hN.go hb34
  replace ha9 := ha9.go hb34
  replace ha10 := ha10.go hb34
  replace ha15 := ha15.go hb34
  replace hl19 := lp_go hl19 hb34
  replace ha25 := ha25.go hb34
  replace hl29 := lp_go hl29 hb34
  refine dw_ready [13] (by kernel_rfl) (by simp) ?_
  refine ar_call 13 16 40 #[.slice (some ⟨g2, 34, none⟩) 32 32] rfl (fun _ => by kernel_rfl) (fun _ => by kernel_rfl) (R := RIt wN.heap.size w32 (tx a.s)) (wtext ha10 (by omega) (N := wN.heap.size) (hN.size)) (fun u w' h => hr4.go h.2) ?_ ar_nil
  rintro _ w36 ⟨⟨y35, rfl, hl37⟩, hb38⟩
  replace hB := hB.go hb38
  replace hr4 := hr4.go hb38
  replace hr8 := hr8.go hb38
  replace hN := hN.go hb38
  replace ha9 := ha9.go hb38
  replace ha10 := ha10.go hb38
  replace ha15 := ha15.go hb38
  replace hl19 := lp_go hl19 hb38
  replace ha25 := ha25.go hb38
  replace hl29 := lp_go hl29 hb38
  replace hl33 := lp_go hl33 hb38
  refine dw_ready [14] (by kernel_rfl) (by simp) ?_
  refine ar_newS 14 17 (IV4 y17 y27 y31 y35) 46 4 rfl (fun _ => by kernel_rfl) (fun _ => by kernel_rfl) (fun w' g h => hr4.go h.below) ?_ ar_nil
  intro w39 g40 hn41
  replace hB := hB.go hn41.below
  replace hr4 := hr4.go hn41.below
  replace hr8 := hr8.go hn41.below
  replace hN := hN.go hn41.below
  replace ha9 := ha9.go hn41.below
  replace ha10 := ha10.go hn41.below
  replace ha15 := ha15.go hn41.below
  replace hl19 := lp_go hl19 hn41.below
  replace ha25 := ha25.go hn41.below
  replace hl29 := lp_go hl29 hn41.below
  replace hl33 := lp_go hl33 hn41.below
  replace hl37 := lp_go hl37 hn41.below
  have hr42 : Rw g40 w39 (IV4 y17 y27 y31 y35) 46 := hn41.row
  refine dw_ready [15] (by kernel_rfl) (by simp) ?_
  refine ar_call 15 18 39 #[.slice (some ⟨g40, 0, none⟩) 4 4] rfl (fun _ => by kernel_rfl) (fun _ => by kernel_rfl) (R := RIt wN.heap.size w39 (.mk true [] [tx (be a.n), tx (be a.b), tx a.c, tx a.s])) (list4 (N := wN.heap.size) (hN.size) hr42 hl19 hl29 hl33 hl37) (fun u w' h => hr4.go h.2) ?_ ar_nil
  rintro _ w44 ⟨⟨y43, rfl, hl45⟩, hb46⟩
  replace hB := hB.go hb46
  replace hr4 := hr4.go hb46
  replace hr8 := hr8.go hb46
  replace hN := hN.go hb46
  replace ha9 := ha9.go hb46
  replace ha10 := ha10.go hb46
  replace ha15 := ha15.go hb46
  replace hl19 := lp_go hl19 hb46
  replace ha25 := ha25.go hb46
  replace hl29 := lp_go hl29 hb46
  replace hl33 := lp_go hl33 hb46
  replace hl37 := lp_go hl37 hb46
  replace hr42 := hr42.go hb46
  refine dw_ready [16] (by kernel_rfl) (by simp) ?_
  refine ar_put 16 g6 (IV y43) rfl (fun _ => by kernel_rfl) (fun _ => ol_store 46 _ _ _ _ _ 46 rfl (by kernel_rfl) (by kernel_rfl) hr8 (by kernel_rfl) (by kernel_rfl) (by kernel_rfl)) (fun w' hp => hr4.past hp (by have := hne; omega)) ?_ ar_nil
  intro w47 hp48
  replace hB := hB.put hp48 hzg6
  replace hr4 := hr4.past hp48 (by have := hne; omega)
  replace hr8 := hr8.put hp48
  replace hl19 := lp_put hl19 hp48 (by have := hgi; omega)
  replace hl29 := lp_put hl29 hp48 (by have := hgi; omega)
  replace hl33 := lp_put hl33 hp48 (by have := hgi; omega)
  replace hl37 := lp_put hl37 hp48 (by have := hgi; omega)
  replace hl45 := lp_put hl45 hp48 (by have := hgi; omega)
  refine dw_done (by kernel_rfl) ?_
  refine nw_then ?_
  refine cw_ret ?_
  refine nw_ret_body (.agg (IV y43)) (fun _ => res_c1 rfl _ g6 _ (by kernel_rfl) hr8 Try.underlying46 rfl (by kernel_rfl)) ?_
  exact ⟨_, rfl, ⟨y43, rfl, liesP_lies _ _ hl45⟩, hB⟩
theorem wenc (a : PA) (ok : okA a) (w : World) : Calls Try.prog 11 #[.agg (AV a).toArray] w fun e w' => ∃ v, e = .returned v ∧ RSl w (enA a) v w' := by
  have hB : Bl w w := Bl.refl w
  refine cw_enter Try.func11 rfl 12 rfl ?_
  show CW _ _ _ _ _ _ _ [(0, .agg (AV a).toArray)] _
  refine cw_seq ?_
  refine cw_region ?_
  refine rw_new 1 ((AV a).toArray) 26 (fun _ => by kernel_rfl) (fun _ => by kernel_rfl) ?_
  intro w1 g2 hn3
  have hzg2 : w.heap.size ≤ g2 := by have := hB.size; have := hn3.hg; omega
  replace hB := hB.go hn3.below
  have hr4 : Rw g2 w1 ((AV a).toArray) 26 := hn3.row
  refine rp 2 (.slice none 0 0) ?_
  refine rw_nil ?_
  refine nw_then ?_
  refine cw_seq ?_
  refine cw_region ?_
  refine rv 6 (.agg ((AV a).toArray)) (fun _ => ol_row 26 _ _ _ _ _ _ rfl (by kernel_rfl) hr4 Try.underlying26 rfl (infoA ok)) ?_
  refine rw_call 7 23 #[.agg ((AV a).toArray)] (fun _ => by kernel_rfl) (fun _ => by kernel_rfl) (R := fun v w' => (∃ y : V, v = .agg (IV y) ∧ Lies w' (itA a) y) ∧ Bl w1 w') (witem a ok w1) ?_
  rintro _ w6 ⟨⟨y5, rfl, hl7⟩, hb8⟩
  replace hB := hB.go hb8
  replace hr4 := hr4.go hb8
  refine rw_call 8 22 #[.agg (IV y5)] (fun _ => by kernel_rfl) (fun _ => by kernel_rfl) (R := fun v w' => (∃ x n c, v = .tuple #[.slice x n c, .int .i64 0] ∧ Ag w' x n c (enA a)) ∧ Bl w6 w') (wencode ok hl7) ?_
  rintro _ w12 ⟨⟨a9, n10, c11, rfl, ha13⟩, hb14⟩
  replace hB := hB.go hb14
  replace hr4 := hr4.go hb14
  replace hl7 := lies_mono hb14 _ _ hl7
  refine rp 5 (.tuple #[.slice a9 n10 c11, .int .i64 0]) ?_
  refine rp 9 (.slice a9 n10 c11) ?_
  refine rp 10 (.int .i64 0) ?_
  refine rp 3 (.slice a9 n10 c11) ?_
  refine rp 4 (.int .i64 0) ?_
  refine rw_nil ?_
  refine nw_then ?_
  refine cw_seq ?_
  refine cw_region ?_
  refine rp 11 (.slice a9 n10 c11) ?_
  refine rp 2 (.slice a9 n10 c11) ?_
  refine rw_nil ?_
  refine nw_then ?_
  refine cw_ret ?_
  refine nw_ret_body (.slice a9 n10 c11) (fun _ => by kernel_rfl) ?_
  exact ⟨_, rfl, ⟨_, _, _, rfl, ha13⟩, hB⟩
theorem wvalue (n : Nat) (h : n < W64) (w : World) : Calls Try.prog 19 #[.int .u64 ((n : Nat) : Int)] w fun e w' => ∃ v, e = .returned v ∧ RSl w (be n) v w' := by
  have hB : Bl w w := Bl.refl w
  refine cw_enter Try.func19 rfl 5 rfl ?_
  show CW _ _ _ _ _ _ _ [(0, .int .u64 ((n : Nat) : Int))] _
  refine cw_seq ?_
  refine cw_region ?_
  refine rp 2 (.slice none 0 0) ?_
  refine rw_nil ?_
  refine nw_then ?_
  refine cw_seq ?_
  refine cw_region ?_
  refine rp 3 (.int .u64 ((n : Nat) : Int)) ?_
  refine rw_call 4 34 #[.int .u64 ((n : Nat) : Int)] (fun _ => by kernel_rfl) (fun _ => by kernel_rfl) (R := RSl w (be n)) (wbytes n h w) ?_
  rintro _ w4 ⟨⟨a1, n2, c3, rfl, ha5⟩, hb6⟩
  replace hB := hB.go hb6
  refine rp 2 (.slice a1 n2 c3) ?_
  refine rw_nil ?_
  refine nw_then ?_
  refine cw_ret ?_
  refine nw_ret_body (.slice a1 n2 c3) (fun _ => by kernel_rfl) ?_
  exact ⟨_, rfl, ⟨_, _, _, rfl, ha5⟩, hB⟩
end Go.Proofs.Ytmaajddofmahpaa
/- What an item is an account of, as the program asks it: plain; and where its four things lie. -/
namespace Go.Proofs.Ytmaajddofmahpaa
open Go.RowKit
open Di (dref)
set_option linter.unusedVariables false
set_option maxRecDepth 100000
def wp4 (t : T) : Nat × Bool := if t.l then (0, false) else Wo.rdP t.bs
def dp4 (t : T) : List Int × Bool := if t.bs.length = 32 then (t.bs, true) else (z32, false)
def acB (t : T) : Option PA := match t.its with
  | [x0, x1, x2, x3] => if (wp4 x0).2 && (wp4 x1).2 && (dp4 x2).2 && (dp4 x3).2 then some ⟨(wp4 x0).1, (wp4 x1).1, (dp4 x2).1, (dp4 x3).1⟩ else none
  | _ => none
theorem lies_un {w : World} {t : T} {y : V} (h : Lies w t y) : y.l = t.l ∧ Ag w y.ba y.bn y.bc t.bs ∧ y.m = t.its.length ∧ y.bn ≤ 140737488351232 ∧ LiesAll w t.its y.ia 0 := by
  obtain ⟨l, bs, its⟩ := t
  obtain ⟨h1, h2, h3, h4, h5, h6, h7⟩ := lies_eq.1 h
  exact ⟨h1, h2, h3, h6.1, h7⟩
abbrev IL (y : V) : List Value := [.bool y.l, .slice y.ba y.bn y.bc, .slice y.ia y.m y.ic]
theorem range3 {w : World} {g o : Nat} {y : V} (c0 : w.cell? ⟨g, o, none⟩ = some (.bool y.l)) (c1 : w.cell? ⟨g, o + 1, none⟩ = some (.slice y.ba y.bn y.bc)) (c2 : w.cell? ⟨g, o + 2, none⟩ = some (.slice y.ia y.m y.ic)) : w.rangeAt g o (IL y) := by
  intro j v hv
  match j with
  | 0 => simp at hv; subst hv; exact c0
  | 1 => simp at hv; subst hv; exact c1
  | 2 => simp at hv; subst hv; exact c2
  | j + 3 => simp at hv
/-- The four things of a list of four. -/
theorem four {w : World} {t : T} {y : V} (h : Lies w t y) (h4 : y.m = 4) : ∃ (x0 x1 x2 x3 : T) (g off : Nat) (y0 y1 y2 y3 : V), t.its = [x0, x1, x2, x3] ∧ y.ia = some ⟨g, off, none⟩ ∧ w.rangeAt g (off + 0 * 3) (IL y0) ∧ w.rangeAt g (off + 1 * 3) (IL y1) ∧ w.rangeAt g (off + 2 * 3) (IL y2) ∧ w.rangeAt g (off + 3 * 3) (IL y3) ∧ Lies w x0 y0 ∧ Lies w x1 y1 ∧ Lies w x2 y2 ∧ Lies w x3 y3 := by
  obtain ⟨_, _, hl, _, ha⟩ := lies_un h
  rw [h4] at hl
  match hi : t.its, hl with
  | [x0, x1, x2, x3], _ =>
    rw [hi] at ha
    obtain ⟨⟨g, off, y0, e0, a0, a1, a2, L0⟩, ha⟩ := liesAll_cons.1 ha
    obtain ⟨⟨g1, off1, y1, e1, b0, b1, b2, L1⟩, ha⟩ := liesAll_cons.1 ha
    obtain ⟨⟨g2, off2, y2, e2, c0, c1, c2, L2⟩, ha⟩ := liesAll_cons.1 ha
    obtain ⟨⟨g3, off3, y3, e3, d0, d1, d2, L3⟩, ha⟩ := liesAll_cons.1 ha
    rw [e0] at e1 e2 e3
    cases e1
    cases e2
    cases e3
    exact ⟨x0, x1, x2, x3, g, off, y0, y1, y2, y3, rfl, e0, range3 a0 a1 a2, range3 b0 b1 b2, range3 c0 c1 c2, range3 d0 d1 d2, L0, L1, L2, L3⟩
end Go.Proofs.Ytmaajddofmahpaa

/- What the words' Mul tells, the program's and the document's. -/
import Derived.Test.YtmofehloiiopfaaG08
import Derived.Test.YtmofehloiiopfaaG00
import Derived.Test.YtmofehloiiopfaaG20
import Derived.Test.YtmofehloiiopfaaG22
import Derived.Test.YtmofehloiiopfaaG23
import Derived.Test.YtmofehloiiopfaaG10
namespace Go.Proofs.Ytmofehloiiopfaa.Wo
open Go.RowKit
set_option linter.unusedVariables false
def mulP (a b : Int) : Int × Bool := if a * b < 18446744073709551616 then (a * b, true) else (0, false)
end Go.Proofs.Ytmofehloiiopfaa.Wo
/- What Fee tells. -/
namespace Go.Proofs.Ytmofehloiiopfaa
open Go.RowKit
set_option linter.unusedVariables false
set_option maxRecDepth 100000
end Go.Proofs.Ytmofehloiiopfaa
/- A transaction's words, truth and input as items: the program's. -/
namespace Go.Proofs.Ytmofehloiiopfaa
open Go.RowKit
open Di (dref)
set_option linter.unusedVariables false
set_option linter.unusedSimpArgs false
set_option maxRecDepth 100000
theorem wtextOf (n : Nat) (h : n < W64) (w : World) {N : Nat} (hN : N ≤ w.heap.size) : Calls Try.prog 41 #[.int .u64 ((n : Nat) : Int)] w fun e w' => ∃ v, e = .returned v ∧ RIt N w (tx (be n)) v w' := by
  have hB : Bl w w := Bl.refl w
  refine cw_enter Try.func41 rfl 6 rfl ?_
  show CW _ _ _ _ _ _ _ [(0, .int .u64 ((n : Nat) : Int))] _
  refine cw_seq ?_
  refine cw_region ?_
  refine rw_new 2 (#[.bool false, .slice none 0 0, .slice none 0 0]) 45 (fun _ => by kernel_rfl) (fun _ => by kernel_rfl) ?_
  intro w1 g2 hn3
  have hzg2 : w.heap.size ≤ g2 := by have := hB.size; have := hn3.hg; omega
  replace hB := hB.go hn3.below
  have hr4 : Rw g2 w1 (#[.bool false, .slice none 0 0, .slice none 0 0]) 45 := hn3.row
  refine rw_nil ?_
  refine nw_then ?_
  refine cw_seq ?_
  have hM : w1.heap.size ≤ w1.heap.size := Nat.le_refl _
  have hNM : N ≤ w1.heap.size := Nat.le_trans hN hB.size
  have hU : Bl w1 w1 := Bl.refl _
  have hlMg2 : g2 < w1.heap.size := hr4.lt
  refine cw_region ?_
  refine rp 3 (.int .u64 ((n : Nat) : Int)) ?_
  refine rw_call 4 65 #[.int .u64 ((n : Nat) : Int)] (fun _ => by kernel_rfl) (fun _ => by kernel_rfl) (R := RSl w1 (be n)) (wbytes n h w1) ?_
  rintro _ w8 ⟨⟨a5, n6, c7, rfl, ha9⟩, hb10⟩
  replace hB := hB.go hb10
  replace hr4 := hr4.go hb10
  replace hU := hU.go hb10
  refine rw_call 5 44 #[.slice a5 n6 c7] (fun _ => by kernel_rfl) (fun _ => by kernel_rfl) (R := RIt w1.heap.size w8 (tx (be n))) (wtext ha9 (by have := ha9.l; have := be_b8 h; omega) (N := w1.heap.size) hU.size) ?_
  rintro _ w12 ⟨⟨y11, rfl, hl13⟩, hb14⟩
  replace hB := hB.go hb14
  replace hr4 := hr4.go hb14
  replace hU := hU.go hb14
  replace ha9 := ha9.go hb14
  refine rw_put g2 (IV y11) (fun _ => by kernel_rfl) (fun _ => ol_store 45 _ _ _ _ _ 45 rfl (by kernel_rfl) (by kernel_rfl) hr4 (by kernel_rfl) (by kernel_rfl) (by kernel_rfl)) ?_
  intro w15 hp16
  replace hB := hB.put hp16 hzg2
  replace hr4 := hr4.put hp16
  replace hl13 := lp_put hl13 hp16 (by omega)
  refine rw_nil ?_
  refine nw_then ?_
  refine cw_ret ?_
  refine nw_ret_body (.agg (IV y11)) (fun _ => res_c1 rfl _ g2 _ (by kernel_rfl) hr4 Try.underlying45 rfl (by kernel_rfl)) ?_
  exact ⟨_, rfl, ⟨y11, rfl, lp_le hl13 hNM⟩, hB⟩
theorem wtextOf1 (w : World) {N : Nat} (hN : N ≤ w.heap.size) : Calls Try.prog 41 #[.int .u64 1] w fun e w' => ∃ v, e = .returned v ∧ RIt N w (tx (mkB true)) v w' := by
  rw [tx_mk]
  exact wtextOf 1 (by decide) w hN
theorem wtextOf0 (w : World) {N : Nat} (hN : N ≤ w.heap.size) : Calls Try.prog 41 #[.int .u64 0] w fun e w' => ∃ v, e = .returned v ∧ RIt N w (tx (mkB false)) v w' := by
  rw [tx_mk]
  exact wtextOf 0 (by decide) w hN
theorem wtruthText (tt : Bool) (w : World) {N : Nat} (hN : N ≤ w.heap.size) : Calls Try.prog 43 #[.bool tt] w fun e w' => ∃ v, e = .returned v ∧ RIt N w (tx (mkB tt)) v w' := by
  have hB : Bl w w := Bl.refl w
  refine cw_enter Try.func43 rfl 6 rfl ?_
  show CW _ _ _ _ _ _ _ [(0, .bool tt)] _
  refine cw_seq ?_
  refine cw_region ?_
  refine rw_new 2 (#[.bool false, .slice none 0 0, .slice none 0 0]) 45 (fun _ => by kernel_rfl) (fun _ => by kernel_rfl) ?_
  intro w1 g2 hn3
  have hzg2 : w.heap.size ≤ g2 := by have := hB.size; have := hn3.hg; omega
  replace hB := hB.go hn3.below
  have hr4 : Rw g2 w1 (#[.bool false, .slice none 0 0, .slice none 0 0]) 45 := hn3.row
  refine rw_nil ?_
  refine nw_then ?_
  refine cw_seq ?_
  refine cw_seq ?_
  have hM : w1.heap.size ≤ w1.heap.size := Nat.le_refl _
  have hNM : N ≤ w1.heap.size := Nat.le_trans hN hB.size
  have hU : Bl w1 w1 := Bl.refl _
  have hlMg2 : g2 < w1.heap.size := hr4.lt
  refine cw_region ?_
  refine rp 3 (.bool tt) ?_
  refine rw_nil ?_
  refine nw_then ?_
  cases hq5 : (tt) with
  | true =>
    refine cw_cond_t (fun _ => by kernel_rfl) ?_
    refine cw_seq ?_
    refine cw_region ?_
    refine rw_call 4 41 #[.int .u64 1] (fun _ => by kernel_rfl) (fun _ => by kernel_rfl) (R := RIt w1.heap.size w1 (tx (mkB true))) (wtextOf1 w1 (N := w1.heap.size) hU.size) ?_
    rintro _ w7 ⟨⟨y6, rfl, hl8⟩, hb9⟩
    replace hB := hB.go hb9
    replace hr4 := hr4.go hb9
    replace hU := hU.go hb9
    refine rw_put g2 (IV y6) (fun _ => by kernel_rfl) (fun _ => ol_store 45 _ _ _ _ _ 45 rfl (by kernel_rfl) (by kernel_rfl) hr4 (by kernel_rfl) (by kernel_rfl) (by kernel_rfl)) ?_
    intro w10 hp11
    replace hB := hB.put hp11 hzg2
    replace hr4 := hr4.put hp11
    replace hl8 := lp_put hl8 hp11 (by omega)
    refine rw_nil ?_
    refine nw_then ?_
    refine cw_ret ?_
    refine nw_ret_then ?_
    refine nw_ret_body (.agg (IV y6)) (fun _ => res_c1 rfl _ g2 _ (by kernel_rfl) hr4 Try.underlying45 rfl (by kernel_rfl)) ?_
    exact ⟨_, rfl, ⟨y6, rfl, lp_le hl8 hNM⟩, hB⟩
  | false =>
    refine cw_cond_f (fun _ => by kernel_rfl) ?_
    refine cw_skip ?_
    refine nw_then ?_
    refine cw_seq ?_
    refine cw_region ?_
    refine rw_call 5 41 #[.int .u64 0] (fun _ => by kernel_rfl) (fun _ => by kernel_rfl) (R := RIt w1.heap.size w1 (tx (mkB false))) (wtextOf0 w1 (N := w1.heap.size) hU.size) ?_
    rintro _ w13 ⟨⟨y12, rfl, hl14⟩, hb15⟩
    replace hB := hB.go hb15
    replace hr4 := hr4.go hb15
    replace hU := hU.go hb15
    refine rw_put g2 (IV y12) (fun _ => by kernel_rfl) (fun _ => ol_store 45 _ _ _ _ _ 45 rfl (by kernel_rfl) (by kernel_rfl) hr4 (by kernel_rfl) (by kernel_rfl) (by kernel_rfl)) ?_
    intro w16 hp17
    replace hB := hB.put hp17 hzg2
    replace hr4 := hr4.put hp17
    replace hl14 := lp_put hl14 hp17 (by omega)
    refine rw_nil ?_
    refine nw_then ?_
    refine cw_ret ?_
    refine nw_ret_body (.agg (IV y12)) (fun _ => res_c1 rfl _ g2 _ (by kernel_rfl) hr4 Try.underlying45 rfl (by kernel_rfl)) ?_
    exact ⟨_, rfl, ⟨y12, rfl, lp_le hl14 hNM⟩, hB⟩
theorem wlistOf {w : World} {ia : Option Addr} {m ic : Nat} {l : List Nat} (hw : Wl w ia m ic l) (hm : m ≤ 16777216) {N : Nat} (hN : N ≤ w.heap.size) : Calls Try.prog 42 #[.slice ia m ic] w fun e w' => ∃ v, e = .returned v ∧ RIt N w (.mk true [] (tws l)) v w' := by
  have hlen := hw.e
  have hB : Bl w w := Bl.refl w
  refine cw_enter Try.func42 rfl 24 rfl ?_
  show CW _ _ _ _ _ _ _ [(0, .slice ia m ic)] _
  refine cw_seq ?_
  refine cw_region ?_
  refine rw_new 2 (#[.bool false, .slice none 0 0, .slice none 0 0]) 45 (fun _ => by kernel_rfl) (fun _ => by kernel_rfl) ?_
  intro w1 g2 hn3
  have hzg2 : w.heap.size ≤ g2 := by have := hB.size; have := hn3.hg; omega
  replace hB := hB.go hn3.below
  have hr4 : Rw g2 w1 (#[.bool false, .slice none 0 0, .slice none 0 0]) 45 := hn3.row
  refine rw_nil ?_
  refine nw_then ?_
  refine cw_seq ?_
  refine cw_region ?_
  refine rp 6 (.slice ia m ic) ?_
  refine rp 7 (.int .i64 m) ?_
  refine rw_newS 8 (((List.replicate m zV).flatMap V.cells).toArray) 45 m (fun _ => by kernel_rfl) (fun _ => ol_mkI _ _ hm rfl (by kernel_rfl) (by kernel_rfl)) ?_
  intro w5 g6 hn7
  have hlg2g6 : g2 < g6 := by have := hr4.lt; have := hn7.hg; omega
  have hzg : w.heap.size ≤ g6 := by have := hB.size; have := hn7.hg; omega
  replace hB := hB.go hn7.below
  replace hr4 := hr4.go hn7.below
  have hys : Rw g6 w5 (((List.replicate m zV).flatMap V.cells).toArray) 45 := hn7.row
  have hgM : g6 < w5.heap.size := hys.lt
  refine rp 3 (.slice (some ⟨g6, 0, none⟩) m m) ?_
  refine rw_nil ?_
  refine nw_then ?_
  refine cw_seq ?_
  refine cw_seq ?_
  have hM : w5.heap.size ≤ w5.heap.size := Nat.le_refl _
  have hNM : N ≤ w5.heap.size := Nat.le_trans hN hB.size
  have hU : Bl w5 w5 := Bl.refl _
  have hlMg2 : g2 < w5.heap.size := hr4.lt
  refine cw_region ?_
  refine rp 9 (.slice ia m ic) ?_
  refine rp 10 (.int .i64 m) ?_
  refine rp 11 (.int .i64 0) ?_
  refine rw_nil ?_
  refine nw_then ?_
  refine cw_block ?_
  refine cw_loop (X := Nat) (fun z => [(11, .int .i64 ((z : Nat) : Int)), (2, .pointer (some ⟨g2, 0, none⟩)), (3, .slice (some ⟨g6, 0, none⟩) m m), (9, .slice ia m ic), (10, .int .i64 m)]) (fun z v => Bl w v ∧ w5.heap.size ≤ v.heap.size ∧ Rw g2 v #[.bool false, .slice none 0 0, .slice none 0 0] 45 ∧ (∃ ys, Rw g6 v (ys.flatMap V.cells).toArray 45 ∧ AllP (Np w5.heap.size) v (mts l z) ys) ∧ z ≤ m) (fun z => m - z) 0 (by exact ⟨fun _ => by kernel_rfl, ⟨fun _ => by kernel_rfl, ⟨fun _ => by kernel_rfl, ⟨fun _ => by kernel_rfl, ⟨fun _ => by kernel_rfl, trivial⟩⟩⟩⟩⟩) ⟨hB, Nat.le_refl _, hr4, ⟨_, hys, by rw [mts_zero, hlen]; exact allP_zero m⟩, Nat.zero_le _⟩ ?_
  clear hB hr4 hys
  rintro i v ⟨hB, hUs, hg2, ⟨ys, hys, hal⟩, hi⟩
  show CW _ _ _ _ _ _ _ [(11, .int .i64 ((i : Nat) : Int)), (2, .pointer (some ⟨g2, 0, none⟩)), (3, .slice (some ⟨g6, 0, none⟩) m m), (9, .slice ia m ic), (10, .int .i64 m)] _
  have hyl : ys.length = m := by rw [← hal.len, mts_len l (by omega), hlen]
  by_cases hlt : i < m
  · skip
    refine cw_seq ?_
    refine cw_region ?_
    refine rv 12 (.bool true) (fun _ => ol_conv (v := .bool (decide (((i : Nat) : Int) < (m : Int)))) (by kernel_rfl) (congrArg Value.bool (decide_eq_true (by omega)))) ?_
    refine rw_nil ?_
    refine nw_then ?_
    refine cw_seq ?_
    refine cw_cond_t (fun _ => by kernel_rfl) ?_
    refine cw_skip ?_
    refine nw_then ?_
    refine cw_seq ?_
    refine cw_block ?_
    refine cw_seq ?_
    obtain ⟨ni, hni⟩ : ∃ n, l[i]? = some n := ⟨_, List.getElem?_eq_getElem (by omega)⟩
    have hnl := hw.b ni (List.mem_of_getElem? hni)
    obtain ⟨gb, off, hia, hcl⟩ := cell_wl hw hlt hni
    refine cw_region ?_
    refine rp 13 (.int .i64 ((i : Nat) : Int)) ?_
    refine rv 14 (.pointer (some ⟨gb, off + i * 1, none⟩)) (fun _ => ol_index 23 _ _ gb off i m ic 1 22 rfl (congrArg (fun a => Value.slice a m ic) hia) (by kernel_rfl) hlt Try.underlying23 (by kernel_rfl)) ?_
    refine rv 15 (.int .u64 ((ni : Nat) : Int)) (fun _ => ol_cell 22 _ ⟨gb, off + i * 1, none⟩ _ _ rfl (by kernel_rfl) (hcl _ hB) Try.underlying22 rfl) ?_
    refine rp 4 (.int .i64 ((i : Nat) : Int)) ?_
    refine rp 5 (.int .u64 ((ni : Nat) : Int)) ?_
    refine rw_nil ?_
    refine nw_then ?_
    have hbv : Bl v v := Bl.refl v
    refine cw_region ?_
    refine rp 16 (.slice (some ⟨g6, 0, none⟩) m m) ?_
    refine rp 17 (.int .i64 ((i : Nat) : Int)) ?_
    refine rp 18 (.int .u64 ((ni : Nat) : Int)) ?_
    have hUz := hUs
    refine rw_call 19 41 #[.int .u64 ((ni : Nat) : Int)] (fun _ => by kernel_rfl) (fun _ => by kernel_rfl) (R := RIt w5.heap.size v (tx (be ni))) (wtextOf ni hnl v (N := w5.heap.size) hUz) ?_
    rintro _ w9 ⟨⟨y8, rfl, hl10⟩, hb11⟩
    replace hB := hB.go hb11
    replace hg2 := hg2.go hb11
    replace hys := hys.go hb11
    replace hal := allP_go hal hb11
    replace hbv := hbv.go hb11
    refine rv 20 (.pointer (some ⟨g6, 0 + i * 3, none⟩)) (fun _ => ol_index 43 _ _ g6 0 i m m 3 45 rfl (by kernel_rfl) (by kernel_rfl) hlt Try.underlying43 (by kernel_rfl)) ?_
    have hbU : v.heap.size ≤ w9.heap.size := hbv.size
    have hsz := hB.size
    refine rw_put g6 (((ys.set i y8).flatMap V.cells).toArray) (fun _ => by kernel_rfl) (fun _ => ol_storeA _ _ hys (by omega) rfl (by kernel_rfl) (by kernel_rfl)) ?_
    intro w12 hp13
    replace hB := hB.put hp13 hzg
    replace hg2 := hg2.past hp13 (by omega)
    replace hys := hys.put hp13
    replace hal := AllP.upd (lp_put hl10 hp13 hgM) i (allP_put hal hp13 hgM)
    rw [mts_set l hni] at hal
    have hUq : w5.heap.size ≤ w12.heap.size := by rw [hp13.size]; exact Nat.le_trans hUs hbU
    refine rw_nil ?_
    refine nw_block ?_
    refine nw_then ?_
    refine cw_region ?_
    refine rv 21 (.int .i64 (((i : Nat) : Int) + 1)) (fun _ => ol_conv (v := .int .i64 (IntKind.i64.wrap (((i : Nat) : Int) + 1))) (by kernel_rfl) (congrArg (Value.int .i64) (wrap64 (by omega) (by omega)))) ?_
    refine rp 11 (.int .i64 (((i : Nat) : Int) + 1)) ?_
    refine rw_nil ?_
    exact nw_round (E := fun z => [(11, .int .i64 ((z : Nat) : Int)), (2, .pointer (some ⟨g2, 0, none⟩)), (3, .slice (some ⟨g6, 0, none⟩) m m), (9, .slice ia m ic), (10, .int .i64 m)]) (R := fun z v => Bl w v ∧ w5.heap.size ≤ v.heap.size ∧ Rw g2 v #[.bool false, .slice none 0 0, .slice none 0 0] 45 ∧ (∃ ys, Rw g6 v (ys.flatMap V.cells).toArray 45 ∧ AllP (Np w5.heap.size) v (mts l z) ys) ∧ z ≤ m) (μ := fun z => m - z) (x := i) (i + 1) (by exact ⟨fun _ => by kernel_rfl, ⟨fun _ => by kernel_rfl, ⟨fun _ => by kernel_rfl, ⟨fun _ => by kernel_rfl, ⟨fun _ => by kernel_rfl, trivial⟩⟩⟩⟩⟩) ⟨hB, hUq, hg2, ⟨_, hys, hal⟩, by omega⟩ (by show m - (i + 1) < m - i; omega)
  obtain rfl : i = m := by omega
  rw [show mts l i = tws l from by rw [← hlen]; exact mts_all l] at hal
  show CW _ _ _ _ _ _ _ [(11, .int .i64 ((i : Nat) : Int)), (2, .pointer (some ⟨g2, 0, none⟩)), (3, .slice (some ⟨g6, 0, none⟩) i i), (9, .slice ia i ic), (10, .int .i64 i)] _
  refine cw_seq ?_
  refine cw_region ?_
  refine rv 12 (.bool false) (fun _ => ol_conv (v := .bool (decide (((i : Nat) : Int) < (i : Int)))) (by kernel_rfl) (congrArg Value.bool (decide_eq_false (by omega)))) ?_
  refine rw_nil ?_
  refine nw_then ?_
  refine cw_seq ?_
  refine cw_cond_f (fun _ => by kernel_rfl) ?_
  refine cw_exit ?_
  refine nw_exit_then ?_
  refine nw_exit_then ?_
  refine nw_exit_here ?_
  refine nw_then ?_
  refine cw_seq ?_
  refine cw_region ?_
  refine rp 22 (.slice (some ⟨g6, 0, none⟩) i i) ?_
  refine rw_call 23 45 #[.slice (some ⟨g6, 0, none⟩) i i] (fun _ => by kernel_rfl) (fun _ => by kernel_rfl) (R := RIt w5.heap.size v (.mk true [] (tws l))) (list_rw (N := w5.heap.size) hUs hys hal (by unfold tws; rw [List.length_map]; exact hlen.symm) (by unfold tws; rw [List.length_map, hlen]; exact hm)) ?_
  rintro _ w15 ⟨⟨y14, rfl, hl16⟩, hb17⟩
  replace hB := hB.go hb17
  replace hg2 := hg2.go hb17
  replace hys := hys.go hb17
  replace hal := allP_go hal hb17
  refine rw_put g2 (IV y14) (fun _ => by kernel_rfl) (fun _ => ol_store 45 _ _ _ _ _ 45 rfl (by kernel_rfl) (by kernel_rfl) hg2 (by kernel_rfl) (by kernel_rfl) (by kernel_rfl)) ?_
  intro w18 hp19
  replace hB := hB.put hp19 hzg2
  replace hg2 := hg2.put hp19
  replace hl16 := lp_put hl16 hp19 (by omega)
  refine rw_nil ?_
  refine nw_then ?_
  refine cw_ret ?_
  refine nw_ret_body (.agg (IV y14)) (fun _ => res_c1 rfl _ g2 _ (by kernel_rfl) hg2 Try.underlying45 rfl (by kernel_rfl)) ?_
  exact ⟨_, rfl, ⟨y14, rfl, lp_le hl16 hNM⟩, hB⟩
end Go.Proofs.Ytmofehloiiopfaa

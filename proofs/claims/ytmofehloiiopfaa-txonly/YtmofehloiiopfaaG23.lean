/- The document's Bytes of a transaction. -/
import Derived.Test.YtmofehloiiopfaaG21
import Derived.Test.YtmofehloiiopfaaG22
import Derived.Test.YtmofehloiiopfaaG10
namespace Go.Proofs.Ytmofehloiiopfaa
open Go.RowKit
open Di (dref)
set_option linter.unusedVariables false
set_option maxRecDepth 100000
end Go.Proofs.Ytmofehloiiopfaa
/- The document's Encode of a transaction. -/
namespace Go.Proofs.Ytmofehloiiopfaa
open Go.RowKit
open Di (dref)
set_option linter.unusedVariables false
set_option maxRecDepth 100000
theorem TXa.go {w w' : World} {y : TV} (h : TXa w y) (hb : Bl w w') : TXa w' y := ⟨h.o, h.i.go hb, h.c.go hb, h.m⟩
def erX (t : PX) : Int := if rtX t = true then 0 else 160
end Go.Proofs.Ytmofehloiiopfaa
/- A transaction's words and truth, read: the program's. -/
namespace Go.Proofs.Ytmofehloiiopfaa
open Go.RowKit
open Di (dref)
set_option linter.unusedVariables false
set_option linter.unusedSimpArgs false
set_option maxRecDepth 100000
theorem tru_no1 {t : T} (h : (wp4 t).2 = false) : tru t = none := by unfold tru; rw [h]; rfl
theorem tru_no2 {t : T} (h : 1 < (wp4 t).1) : tru t = none := by unfold tru; rw [if_neg (by rw [Bool.and_eq_true, decide_eq_true_eq]; omega)]
theorem tru_yes {t : T} (h : (wp4 t).2 = true) (h2 : (wp4 t).1 ≤ 1) : tru t = some ((((wp4 t).1 : Nat) : Int) == (1 : Int)) := by
  unfold tru
  rw [if_pos (by rw [Bool.and_eq_true, decide_eq_true_eq]; exact ⟨h, h2⟩)]
  congr 1
  rw [Bool.eq_iff_iff, decide_eq_true_eq, beq_iff_eq]
  omega
theorem tru_dec {t : T} (h : (tru t).isSome = true) : (tru t).getD false = decide ((wp4 t).1 = 1) := by
  unfold tru at *
  split
  · rfl
  · rename_i hq; rw [if_neg hq] at h; cases h
/-- A row of words that was made. -/
def HdU (M : Nat) (w : World) (ts : List T) (V : Value) : Prop := ∃ g, V = .slice (some ⟨g, 0, none⟩) ts.length ts.length ∧ Rw g w ((ts.map fun t => (wp4 t).1).map u64).toArray 22 ∧ M ≤ g
theorem hd_go {b : Bool} {M : Nat} {w w' : World} {ts : List T} {V : Value} (h : b = true → HdU M w ts V) (hb : Below w.heap.size w w') : b = true → HdU M w' ts V := fun e => by
  obtain ⟨g, h1, h2, h3⟩ := h e
  exact ⟨g, h1, h2.go hb, h3⟩
def WsR (w : World) (ts : List T) : Value → World → Prop := fun v w' => (∃ V, v = .tuple #[V, .bool (wps ts).isSome] ∧ ((wps ts).isSome = true → HdU w.heap.size w' ts V)) ∧ Bl w w'
theorem wword {w : World} {t : T} {y : V} (h : Lies w t y) : Calls Try.prog 69 #[.agg (IV y)] w fun e w' => ∃ v, e = .returned v ∧ RVl w (.tuple #[.int .u64 (((wp4 t).1 : Nat) : Int), .bool (wp4 t).2]) v w' := by
  obtain ⟨hl, hag, _, hn, _⟩ := lies_un h
  unfold wp4
  have hB : Bl w w := Bl.refl w
  refine cw_enter Try.func69 rfl 11 rfl ?_
  show CW _ _ _ _ _ _ _ [(0, .agg (IV y))] _
  refine cw_seq ?_
  refine cw_region ?_
  refine rw_new 1 (IV y) 45 (fun _ => by kernel_rfl) (fun _ => by kernel_rfl) ?_
  intro w1 g2 hn3
  have hzg2 : w.heap.size ≤ g2 := by have := hB.size; have := hn3.hg; omega
  replace hB := hB.go hn3.below
  replace hag := hag.go hn3.below
  have hr4 : Rw g2 w1 (IV y) 45 := hn3.row
  refine rp 2 (.int .u64 0) ?_
  refine rp 3 (.bool false) ?_
  refine rw_nil ?_
  refine nw_then ?_
  refine cw_seq ?_
  refine cw_seq ?_
  refine cw_region ?_
  refine rp 4 (.pointer (some ⟨g2, 0, none⟩)) ?_
  refine rv 5 (.bool y.l) (fun _ => ol_cell 4 _ ⟨g2, 0, none⟩ _ _ rfl (by kernel_rfl) (by rw [cell_of_row _ _ _ _ _ _ hr4]; rfl) Try.underlying4 rfl) ?_
  refine rw_nil ?_
  refine nw_then ?_
  cases hq5 : (y.l) with
  | true =>
    refine cw_cond_t (fun _ => by kernel_rfl) ?_
    refine cw_seq ?_
    refine cw_region ?_
    refine rp 2 (.int .u64 0) ?_
    refine rp 3 (.bool false) ?_
    refine rw_nil ?_
    refine nw_then ?_
    refine cw_ret ?_
    refine nw_ret_then ?_
    refine nw_ret_body (.tuple #[.int .u64 0, .bool false]) (fun _ => by kernel_rfl) ?_
    have e : t.l = true := by rw [← hl]; exact hq5
    refine ⟨_, rfl, ?_, hB⟩
    rw [e]
    rfl
  | false =>
    refine cw_cond_f (fun _ => by kernel_rfl) ?_
    refine cw_skip ?_
    refine nw_then ?_
    refine cw_seq ?_
    refine cw_region ?_
    refine rp 6 (.pointer (some ⟨g2, 1, none⟩)) ?_
    refine rv 7 (.slice y.ba y.bn y.bc) (fun _ => ol_cell 24 _ ⟨g2, 1, none⟩ _ _ rfl (by kernel_rfl) (by rw [cell_of_row _ _ _ _ _ _ hr4]; rfl) Try.underlying24 rfl) ?_
    refine rw_call 8 78 #[.slice y.ba y.bn y.bc] (fun _ => by kernel_rfl) (fun _ => by kernel_rfl) (R := RVl w1 (.tuple #[.int .u64 (((Wo.rdP t.bs).1 : Nat) : Int), .bool (Wo.rdP t.bs).2])) (wread hag hn) ?_
    rintro _ w6 ⟨rfl, hb7⟩
    replace hB := hB.go hb7
    replace hag := hag.go hb7
    replace hr4 := hr4.go hb7
    refine rp 9 (.int .u64 (((Wo.rdP t.bs).1 : Nat) : Int)) ?_
    refine rp 10 (.bool (Wo.rdP t.bs).2) ?_
    refine rp 2 (.int .u64 (((Wo.rdP t.bs).1 : Nat) : Int)) ?_
    refine rp 3 (.bool (Wo.rdP t.bs).2) ?_
    refine rw_nil ?_
    refine nw_then ?_
    refine cw_ret ?_
    refine nw_ret_body (.tuple #[.int .u64 (((Wo.rdP t.bs).1 : Nat) : Int), .bool (Wo.rdP t.bs).2]) (fun _ => by kernel_rfl) ?_
    have e : t.l = false := by rw [← hl]; exact hq5
    refine ⟨_, rfl, ?_, hB⟩
    rw [e]
    rfl
theorem wtruth {w : World} {t : T} {y : V} (h : Lies w t y) : Calls Try.prog 50 #[.agg (IV y)] w fun e w' => ∃ v, e = .returned v ∧ RVl w (.tuple #[.bool ((tru t).getD false), .bool (tru t).isSome]) v w' := by
  have hB : Bl w w := Bl.refl w
  refine cw_enter Try.func50 rfl 18 rfl ?_
  show CW _ _ _ _ _ _ _ [(0, .agg (IV y))] _
  refine cw_seq ?_
  refine cw_region ?_
  refine rw_new 1 (IV y) 45 (fun _ => by kernel_rfl) (fun _ => by kernel_rfl) ?_
  intro w1 g2 hn3
  have hzg2 : w.heap.size ≤ g2 := by have := hB.size; have := hn3.hg; omega
  replace hB := hB.go hn3.below
  replace h := lies_mono hn3.below _ _ h
  have hr4 : Rw g2 w1 (IV y) 45 := hn3.row
  refine rp 2 (.bool false) ?_
  refine rp 3 (.bool false) ?_
  refine rw_nil ?_
  refine nw_then ?_
  refine cw_seq ?_
  refine cw_region ?_
  refine rv 6 (.agg (IV y)) (fun _ => ol_row 45 _ _ _ _ _ _ rfl (by kernel_rfl) hr4 Try.underlying45 rfl (by kernel_rfl)) ?_
  refine rw_call 7 69 #[.agg (IV y)] (fun _ => by kernel_rfl) (fun _ => by kernel_rfl) (R := RVl w1 (.tuple #[.int .u64 (((wp4 t).1 : Nat) : Int), .bool (wp4 t).2])) (wword h) ?_
  rintro _ w5 ⟨rfl, hb6⟩
  replace hB := hB.go hb6
  replace h := lies_mono hb6 _ _ h
  replace hr4 := hr4.go hb6
  refine rp 5 (.tuple #[.int .u64 (((wp4 t).1 : Nat) : Int), .bool (wp4 t).2]) ?_
  refine rp 8 (.int .u64 (((wp4 t).1 : Nat) : Int)) ?_
  refine rp 9 (.bool (wp4 t).2) ?_
  refine rp 4 (.int .u64 (((wp4 t).1 : Nat) : Int)) ?_
  refine rp 3 (.bool (wp4 t).2) ?_
  refine rw_nil ?_
  refine nw_then ?_
  refine cw_seq ?_
  refine cw_seq ?_
  refine cw_region ?_
  refine rp 10 (.bool (wp4 t).2) ?_
  refine rp 11 (.bool (!((wp4 t).2))) ?_
  refine rp 12 (.bool (!((wp4 t).2))) ?_
  cases hq7 : (!((wp4 t).2)) with
  | true =>
    refine rw_off 13 (fun _ => by kernel_rfl) ?_
    refine rw_off 14 (fun _ => by kernel_rfl) ?_
    refine rp 15 (.bool true) ?_
    refine rw_nil ?_
    refine nw_then ?_
    refine cw_cond_t (fun _ => by kernel_rfl) ?_
    refine cw_seq ?_
    refine cw_region ?_
    refine rp 2 (.bool false) ?_
    refine rp 3 (.bool false) ?_
    refine rw_nil ?_
    refine nw_then ?_
    refine cw_ret ?_
    refine nw_ret_then ?_
    refine nw_ret_body (.tuple #[.bool false, .bool false]) (fun _ => by kernel_rfl) ?_
    try simp only [Bool.not_eq_true', Bool.not_eq_false', decide_eq_true_eq, decide_eq_false_iff_not] at hq7
    exact ⟨_, rfl, by rw [tru_no1 hq7]; rfl, hB⟩
  | false =>
    refine rp 13 (.int .u64 (((wp4 t).1 : Nat) : Int)) ?_
    refine rp 14 (.bool (decide ((((wp4 t).1 : Nat) : Int) > (1 : Int)))) ?_
    refine rp 15 (.bool (decide ((((wp4 t).1 : Nat) : Int) > (1 : Int)))) ?_
    refine rw_nil ?_
    refine nw_then ?_
    cases hq8 : (decide ((((wp4 t).1 : Nat) : Int) > (1 : Int))) with
    | true =>
      refine cw_cond_t (fun _ => by kernel_rfl) ?_
      refine cw_seq ?_
      refine cw_region ?_
      refine rp 2 (.bool false) ?_
      refine rp 3 (.bool false) ?_
      refine rw_nil ?_
      refine nw_then ?_
      refine cw_ret ?_
      refine nw_ret_then ?_
      refine nw_ret_body (.tuple #[.bool false, .bool false]) (fun _ => by kernel_rfl) ?_
      try simp only [Bool.not_eq_true', Bool.not_eq_false', decide_eq_true_eq, decide_eq_false_iff_not] at hq7
      try simp only [Bool.not_eq_true', Bool.not_eq_false', decide_eq_true_eq, decide_eq_false_iff_not] at hq8
      exact ⟨_, rfl, by rw [tru_no2 (by omega)]; rfl, hB⟩
    | false =>
      refine cw_cond_f (fun _ => by kernel_rfl) ?_
      refine cw_skip ?_
      refine nw_then ?_
      refine cw_seq ?_
      refine cw_region ?_
      refine rp 16 (.int .u64 (((wp4 t).1 : Nat) : Int)) ?_
      refine rp 17 (.bool ((((wp4 t).1 : Nat) : Int) == (1 : Int))) ?_
      refine rp 2 (.bool ((((wp4 t).1 : Nat) : Int) == (1 : Int))) ?_
      refine rp 3 (.bool true) ?_
      refine rw_nil ?_
      refine nw_then ?_
      refine cw_ret ?_
      refine nw_ret_body (.tuple #[.bool ((((wp4 t).1 : Nat) : Int) == (1 : Int)), .bool true]) (fun _ => by kernel_rfl) ?_
      try simp only [Bool.not_eq_true', Bool.not_eq_false', decide_eq_true_eq, decide_eq_false_iff_not] at hq7
      try simp only [Bool.not_eq_true', Bool.not_eq_false', decide_eq_true_eq, decide_eq_false_iff_not] at hq8
      exact ⟨_, rfl, by rw [tru_yes hq7 (by omega)]; rfl, hB⟩
set_option maxHeartbeats 1000000 in
theorem wwords {w : World} {a : Option Addr} {m c : Nat} {ts : List T} (h : LiesAll w ts a 0) (hlen : m = ts.length) (hm : m ≤ 16777216) : Calls Try.prog 49 #[.slice a m c] w fun e w' => ∃ v, e = .returned v ∧ WsR w ts v w' := by
  have hll : (ts.map fun t => (wp4 t).1).length = m := by rw [List.length_map, hlen]
  have hB : Bl w w := Bl.refl w
  refine cw_enter Try.func49 rfl 32 rfl ?_
  show CW _ _ _ _ _ _ _ [(0, .slice a m c)] _
  refine cw_seq ?_
  refine cw_region ?_
  refine rp 2 (.slice none 0 0) ?_
  refine rp 3 (.bool false) ?_
  refine rw_nil ?_
  refine nw_then ?_
  refine cw_seq ?_
  refine cw_region ?_
  refine rp 9 (.slice a m c) ?_
  refine rp 10 (.int .i64 m) ?_
  refine rw_newS 11 ((List.replicate m (u64 0)).toArray) 22 m (fun _ => by kernel_rfl) (fun _ => ol_mkU _ _ (by omega) rfl (by kernel_rfl) (by kernel_rfl)) ?_
  intro w1 g2 hn3
  have hzg : w.heap.size ≤ g2 := by have := hB.size; have := hn3.hg; omega
  replace hB := hB.go hn3.below
  have hrm : Rw g2 w1 (mid (ts.map fun t => (wp4 t).1) 0) 22 := by rw [mid_zero, hll]; exact hn3.row
  refine rp 4 (.slice (some ⟨g2, 0, none⟩) m m) ?_
  refine rw_nil ?_
  refine nw_then ?_
  refine cw_seq ?_
  refine cw_seq ?_
  refine cw_region ?_
  refine rp 12 (.slice a m c) ?_
  refine rp 13 (.int .i64 m) ?_
  refine rp 14 (.int .i64 0) ?_
  refine rw_nil ?_
  refine nw_then ?_
  refine cw_block ?_
  refine cw_loop (X := Nat) (fun z => [(14, .int .i64 ((z : Nat) : Int)), (4, .slice (some ⟨g2, 0, none⟩) m m), (12, .slice a m c), (13, .int .i64 m)]) (fun z v => Bl w v ∧ Rw g2 v (mid (ts.map fun t => (wp4 t).1) z) 22 ∧ (∀ t ∈ ts.take z, (wp4 t).2 = true) ∧ z ≤ m) (fun z => m - z) 0 (by exact ⟨fun _ => by kernel_rfl, ⟨fun _ => by kernel_rfl, ⟨fun _ => by kernel_rfl, ⟨fun _ => by kernel_rfl, trivial⟩⟩⟩⟩) ⟨hB, hrm, (fun t ht => by simp at ht), Nat.zero_le _⟩ ?_
  clear hB hrm
  rintro i v ⟨hB, hrm, hal, hi⟩
  show CW _ _ _ _ _ _ _ [(14, .int .i64 ((i : Nat) : Int)), (4, .slice (some ⟨g2, 0, none⟩) m m), (12, .slice a m c), (13, .int .i64 m)] _
  by_cases hlt : i < m
  · skip
    refine cw_seq ?_
    refine cw_region ?_
    refine rv 15 (.bool true) (fun _ => ol_conv (v := .bool (decide (((i : Nat) : Int) < (m : Int)))) (by kernel_rfl) (congrArg Value.bool (decide_eq_true (by omega)))) ?_
    refine rw_nil ?_
    refine nw_then ?_
    refine cw_seq ?_
    refine cw_cond_t (fun _ => by kernel_rfl) ?_
    refine cw_skip ?_
    refine nw_then ?_
    refine cw_seq ?_
    refine cw_block ?_
    refine cw_seq ?_
    obtain ⟨x, hx⟩ : ∃ x, ts[i]? = some x := ⟨_, List.getElem?_eq_getElem (by omega)⟩
    obtain ⟨gb, off, y, hia, hcl, hly⟩ := lies_i h hx
    refine cw_region ?_
    refine rp 16 (.int .i64 ((i : Nat) : Int)) ?_
    refine rv 17 (.pointer (some ⟨gb, off + i * 3, none⟩)) (fun _ => ol_index 43 _ _ gb off i m c 3 45 rfl (congrArg (fun a => Value.slice a m c) hia) (by kernel_rfl) hlt Try.underlying43 (by kernel_rfl)) ?_
    refine rv 18 (.agg (IV y)) (fun _ => ol_mid 45 _ gb (off + i * 3) (V.cells y) _ rfl (by kernel_rfl) (hcl _ hB) Try.underlying45 rfl (by kernel_rfl)) ?_
    refine rw_new 6 (#[.bool false, .slice none 0 0, .slice none 0 0]) 45 (fun _ => by kernel_rfl) (fun _ => by kernel_rfl) ?_
    intro w4 g5 hn6
    have hlg2g5 : g2 < g5 := by have := hrm.lt; have := hn6.hg; omega
    have hzg5 : w.heap.size ≤ g5 := by have := hB.size; have := hn6.hg; omega
    replace hB := hB.go hn6.below
    replace hrm := hrm.go hn6.below
    have hr7 : Rw g5 w4 (#[.bool false, .slice none 0 0, .slice none 0 0]) 45 := hn6.row
    refine rp 5 (.int .i64 ((i : Nat) : Int)) ?_
    refine rw_put g5 (IV y) (fun _ => by kernel_rfl) (fun _ => ol_store 45 _ _ _ _ _ 45 rfl (by kernel_rfl) (by kernel_rfl) hr7 (by kernel_rfl) (by kernel_rfl) (by kernel_rfl)) ?_
    intro w8 hp9
    replace hB := hB.put hp9 hzg5
    replace hrm := hrm.past hp9 (by omega)
    replace hr7 := hr7.put hp9
    refine rw_nil ?_
    refine nw_then ?_
    refine cw_seq ?_
    refine cw_region ?_
    refine rv 20 (.agg (IV y)) (fun _ => ol_row 45 _ _ _ _ _ _ rfl (by kernel_rfl) hr7 Try.underlying45 rfl (by kernel_rfl)) ?_
    refine rw_call 21 69 #[.agg (IV y)] (fun _ => by kernel_rfl) (fun _ => by kernel_rfl) (R := RVl w8 (.tuple #[.int .u64 (((wp4 x).1 : Nat) : Int), .bool (wp4 x).2])) (wword (lies_mono hB _ _ hly)) ?_
    rintro _ w10 ⟨rfl, hb11⟩
    replace hB := hB.go hb11
    replace hrm := hrm.go hb11
    replace hr7 := hr7.go hb11
    refine rp 19 (.tuple #[.int .u64 (((wp4 x).1 : Nat) : Int), .bool (wp4 x).2]) ?_
    refine rp 22 (.int .u64 (((wp4 x).1 : Nat) : Int)) ?_
    refine rp 23 (.bool (wp4 x).2) ?_
    refine rp 7 (.int .u64 (((wp4 x).1 : Nat) : Int)) ?_
    refine rp 8 (.bool (wp4 x).2) ?_
    refine rw_nil ?_
    refine nw_then ?_
    refine cw_seq ?_
    refine cw_seq ?_
    refine cw_region ?_
    refine rp 24 (.bool (wp4 x).2) ?_
    refine rp 25 (.bool (!((wp4 x).2))) ?_
    refine rw_nil ?_
    refine nw_then ?_
    cases hq12 : (!((wp4 x).2)) with
    | true =>
      refine cw_cond_t (fun _ => by kernel_rfl) ?_
      refine cw_seq ?_
      refine cw_region ?_
      refine rp 2 (.slice none 0 0) ?_
      refine rp 3 (.bool false) ?_
      refine rw_nil ?_
      refine nw_then ?_
      refine cw_ret ?_
      refine nw_ret_then ?_
      refine nw_ret_block ?_
      refine nw_ret_then ?_
      refine nw_ret_then ?_
      refine nw_ret_block ?_
      refine nw_ret_then ?_
      refine nw_ret_body (.tuple #[.slice none 0 0, .bool false]) (fun _ => by kernel_rfl) ?_
      have hno : wps ts = none := wps_no (List.mem_of_getElem? hx) (by simpa using hq12)
      exact ⟨_, rfl, ⟨.slice none 0 0, by rw [hno]; rfl, fun e => by rw [hno] at e; cases e⟩, hB⟩
    | false =>
      refine cw_cond_f (fun _ => by kernel_rfl) ?_
      refine cw_skip ?_
      refine nw_then ?_
      refine cw_region ?_
      refine rp 26 (.slice (some ⟨g2, 0, none⟩) m m) ?_
      refine rp 27 (.int .i64 ((i : Nat) : Int)) ?_
      refine rp 28 (.int .u64 (((wp4 x).1 : Nat) : Int)) ?_
      refine rv 29 (.pointer (some ⟨g2, 0 + i * 1, none⟩)) (fun _ => ol_index 23 _ _ g2 0 i m m 1 22 rfl (by kernel_rfl) (by kernel_rfl) hlt Try.underlying23 (by kernel_rfl)) ?_
      have hlm : i < (ts.map fun t => (wp4 t).1).length := by omega
      have hc0 : ∃ u, w10.cell? ⟨g2, 0 + i * 1, none⟩ = some u := by rw [cell_of_row _ _ _ _ _ _ hrm]; exact ⟨_, Array.getElem?_eq_getElem (by rw [mid_size _ (by omega)]; omega)⟩
      obtain ⟨u0, hc0⟩ := hc0
      refine rw_set1 g2 (0 + i * 1) (.int .u64 (((wp4 x).1 : Nat) : Int)) (fun _ => by kernel_rfl) (fun _ => ol_storeU _ _ rfl (by kernel_rfl) (by kernel_rfl) hc0 (fun o => frozen_of_row _ _ _ _ _ hrm)) ?_
      intro w13 hs14
      have hsz := hB.size
      replace hB : Bl w w13 := hs14.touch.below hB hzg hB.size
      replace hrm := hrm.put1 hs14
      rw [Nat.zero_add, Nat.mul_one, show (Value.int .u64 (((wp4 x).1 : Nat) : Int)) = u64 (wp4 x).1 from rfl, mid_set _ (show (ts.map fun t => (wp4 t).1)[i]? = some (wp4 x).1 by rw [List.getElem?_map, hx]; rfl)] at hrm
      refine rw_nil ?_
      refine nw_block ?_
      refine nw_then ?_
      refine cw_region ?_
      refine rv 30 (.int .i64 (((i : Nat) : Int) + 1)) (fun _ => ol_conv (v := .int .i64 (IntKind.i64.wrap (((i : Nat) : Int) + 1))) (by kernel_rfl) (congrArg (Value.int .i64) (wrap64 (by omega) (by omega)))) ?_
      refine rp 14 (.int .i64 (((i : Nat) : Int) + 1)) ?_
      refine rw_nil ?_
      have hx2 : (wp4 x).2 = true := by simpa using hq12
      exact nw_round (E := fun z => [(14, .int .i64 ((z : Nat) : Int)), (4, .slice (some ⟨g2, 0, none⟩) m m), (12, .slice a m c), (13, .int .i64 m)]) (R := fun z v => Bl w v ∧ Rw g2 v (mid (ts.map fun t => (wp4 t).1) z) 22 ∧ (∀ t ∈ ts.take z, (wp4 t).2 = true) ∧ z ≤ m) (μ := fun z => m - z) (x := i) (i + 1) (by exact ⟨fun _ => by kernel_rfl, ⟨fun _ => by kernel_rfl, ⟨fun _ => by kernel_rfl, ⟨fun _ => by kernel_rfl, trivial⟩⟩⟩⟩) ⟨hB, hrm, (fun t ht => by rw [List.take_add_one, hx] at ht; rcases List.mem_append.1 ht with q | q; exact hal t q; simp at q; rw [q]; exact hx2), by omega⟩ (by show m - (i + 1) < m - i; omega)
  obtain rfl : i = m := by omega
  rw [show mid (ts.map fun t => (wp4 t).1) i = ((ts.map fun t => (wp4 t).1).map u64).toArray from by rw [← hll]; exact mid_all _] at hrm
  have hall : wps ts = some (ts.map fun t => (wp4 t).1) := wps_all fun t ht => hal t (by rw [hlen, List.take_length]; exact ht)
  show CW _ _ _ _ _ _ _ [(14, .int .i64 ((i : Nat) : Int)), (4, .slice (some ⟨g2, 0, none⟩) i i), (12, .slice a i c), (13, .int .i64 i)] _
  refine cw_seq ?_
  refine cw_region ?_
  refine rv 15 (.bool false) (fun _ => ol_conv (v := .bool (decide (((i : Nat) : Int) < (i : Int)))) (by kernel_rfl) (congrArg Value.bool (decide_eq_false (by omega)))) ?_
  refine rw_nil ?_
  refine nw_then ?_
  refine cw_seq ?_
  refine cw_cond_f (fun _ => by kernel_rfl) ?_
  refine cw_exit ?_
  refine nw_exit_then ?_
  refine nw_exit_then ?_
  refine nw_exit_here ?_
  refine nw_then ?_
  refine cw_seq ?_
  refine cw_region ?_
  refine rp 31 (.slice (some ⟨g2, 0, none⟩) i i) ?_
  refine rp 2 (.slice (some ⟨g2, 0, none⟩) i i) ?_
  refine rp 3 (.bool true) ?_
  refine rw_nil ?_
  refine nw_then ?_
  refine cw_ret ?_
  refine nw_ret_body (.tuple #[.slice (some ⟨g2, 0, none⟩) i i, .bool true]) (fun _ => by kernel_rfl) ?_
  exact ⟨_, rfl, ⟨.slice (some ⟨g2, 0, none⟩) i i, by rw [hall]; rfl, fun _ => ⟨g2, by rw [← hlen], hrm, hzg⟩⟩, hB⟩
theorem wwords_b {w : World} {a : Option Addr} {m c : Nat} {ts : List T} {b : Bool} (hq : (wps ts).isSome = b) (h : LiesAll w ts a 0) (hlen : m = ts.length) (hm : m ≤ 16777216) : Calls Try.prog 49 #[.slice a m c] w fun e w' => ∃ v, e = .returned v ∧ (∃ V, v = .tuple #[V, .bool b] ∧ (b = true → HdU w.heap.size w' ts V)) ∧ Bl w w' := by
  subst hq
  exact wwords h hlen hm
end Go.Proofs.Ytmofehloiiopfaa

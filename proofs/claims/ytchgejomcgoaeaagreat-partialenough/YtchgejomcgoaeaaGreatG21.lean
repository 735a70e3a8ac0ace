/- What Refer answers of fewer than 32 bytes. -/
import Derived.Test.YtchgejomcgoaeaaGreatG20
import Derived.Test.YtchgejomcgoaeaaGreatG15
import Derived.Test.YtchgejomcgoaeaaGreatG13
set_option linter.unusedVariables false
set_option maxRecDepth 100000
namespace Go.Proofs.YtchgejomcgoaeaaGreat
open Go.RowKit
theorem Zge {fn : Func} {p : Tmp} (h : fn.results = #[.cell p 65]) (tmps : Array Value) (w : World) (g : Nat) (y : RV) (hl : y.d.length = 32) (hp : tmps.getD p undef = .pointer (some ⟨g, 0, none⟩)) (hg : w.heap[g]? = some (.cells y.cells.toArray 65)) :
    (results fn tmps).run Tryz.prog w = .ok (.agg y.cells.toArray) w :=
  results_cell_row h tmps w g 65 y.cells.toArray (0, 0) _ hp hg Tryz.underlying65 rfl (Zbw hl)
set_option maxHeartbeats 4000000 in
theorem Zkr (a : Option Addr) (n c : Nat) (b : List Int) (w : World) (h : Ag w a n c b) (hn : n < 32) :
    Calls Tryz.prog 102 #[.slice a n c] w fun e w' => (∃ y : RV, e = .returned (.agg y.cells.toArray) ∧ RefAt (Own w.heap.size w') w' y ⟨1, z32, b⟩) ∧ Below w.heap.size w w' := by
  have hmk := run_make_row' (P := Tryz.prog) 29 5 (.int .u8 0) 1 Tryz.underlying29 info5b rfl .i64 .i64 n (by omega) (by omega)
  obtain ⟨w0, hw0⟩ : ∃ w0, w.alloc (.cells rz.cells.toArray 65) = w0 := ⟨_, rfl⟩
  have hs0 : w0.heap.size = w.heap.size + 1 := by rw [← hw0]; simp
  have hbw0 : Below w.heap.size w w0 := by rw [← hw0]; exact below_new _ _
  have hres : w0.heap[w.heap.size]? = some (.cells rz.cells.toArray 65) := by rw [← hw0]; exact heap_alloc_new _ _
  have hrow : Row w0.heap.size (w0.alloc (.cells (madeCells #[.int .u8 0] n) 5)) (List.replicate n 0) := by
    unfold Row; rw [heap_alloc_new, made_bytes]
  have hbw : Below w.heap.size w (w0.alloc (.cells (madeCells #[.int .u8 0] n) 5)) := hbw0.alloc (by omega) _
  obtain ⟨w1, hrun, hrow1, ht⟩ := Zi4 (o := 0) (dl := n) (dc := n) (da := some ⟨w0.heap.size, 0, none⟩) hrow (h.at hbw) rfl (by simp) (fun _ => rfl)
  rw [List.take_zero, List.nil_append, Nat.zero_add, List.drop_of_length_le (by simp), List.append_nil] at hrow1
  have hres1 : w1.heap[w.heap.size]? = some (.cells rz.cells.toArray 65) := (ht.block _ (by simp; omega) (by omega)).trans ((Below.heap_alloc _ _ _ (by omega)).trans hres)
  have hb1 := Touch.below hbw ht (by omega) hbw.size
  have HRUN := Hid.mk hrun
  have HROW := Hid.mk hrow1
  have HB := Hid.mk hb1
  have HRES := Hid.mk hres1
  have HD0 := Hid.mk hbw0
  have HS0 := Hid.mk hs0
  have HLB := Hid.mk h.l
  have HBB := Hid.mk h.b
  have h32 : ¬ (n : Int) ≥ 32 := by omega
  clear hrow hrun hrow1 ht hbw h hbw0 hres hres1 hb1 hs0
  go_enter Tryz.func102, Tryz.ntmps102
  go_upto_region 1 with fail
  rw [show (w.alloc (.cells #[.int .i64 0, .int .u8 0, .int .u8 0, .int .u8 0, .int .u8 0, .int .u8 0, .int .u8 0, .int .u8 0, .int .u8 0, .int .u8 0, .int .u8 0, .int .u8 0, .int .u8 0, .int .u8 0, .int .u8 0, .int .u8 0, .int .u8 0, .int .u8 0, .int .u8 0, .int .u8 0, .int .u8 0, .int .u8 0, .int .u8 0, .int .u8 0, .int .u8 0, .int .u8 0, .int .u8 0, .int .u8 0, .int .u8 0, .int .u8 0, .int .u8 0, .int .u8 0, .int .u8 0, .slice none 0 0] 65)) = w0 from hw0]
  clear hw0
  go_wp2_with (first | refine wpl_copy rfl _ _ rfl _ _ rfl rfl (HRUN.out _) ?_ | refine wpList_store_row rfl 65 _ _ rfl _ (RV.cells ⟨1, z32, some ⟨w0.heap.size, 0, none⟩, n, n⟩).toArray rfl rfl 65 _ HRES.out (Zbw rfl) (Zbq rfl) (all_oneCell_toArray (RV.one _)) ?_)
  refine bodyPost_ret (Zge Tryz.results102 _ _ w.heap.size ⟨1, z32, some ⟨w0.heap.size, 0, none⟩, n, n⟩ rfl rfl (setRow_heap _ _ _ _ _ _ HRES.out)) rfl ?_
  have hne : w0.heap.size ≠ w.heap.size := by have := HS0.out; omega
  have hr2 : Row w0.heap.size (w1.setRow w.heap.size (RV.cells ⟨1, z32, some ⟨w0.heap.size, 0, none⟩, n, n⟩).toArray) b := (setRow_other _ _ _ _ hne).trans HROW.out
  refine ⟨⟨⟨1, z32, some ⟨w0.heap.size, 0, none⟩, n, n⟩, rfl, rfl, rfl, Zk5, rfl, row_ag (n := n) hr2 HLB.out HBB.out (by omega), by show n ≤ _; omega, fun g off e _ => ?_⟩, Below.setRow HB.out (Nat.le_refl _) _⟩
  cases e
  exact ⟨by have := HS0.out; omega, fun o => frozen_of_row _ _ _ _ _ hr2⟩
end Go.Proofs.YtchgejomcgoaeaaGreat
namespace Go.Proofs.YtchgejomcgoaeaaGreat
open Go.RowKit
open Di (dref)
theorem Zk9 (a : Option Addr) (n c : Nat) (b : List Int) (w : World) (h : Ag w a n c b) (hn : n ≤ 140737488351232) : Calls Tryz.prog 27 #[.slice a n c] w fun e w' => e = .returned (.agg (B8 (dref b))) ∧ Below w.heap.size w w' :=
  Di.of_any a n c b w h.i h.l.symm h.b (by omega)
theorem Zlv (a : Option Addr) (n c : Nat) (b : List Int) (w : World) (h : Ag w a n c b) (hn : n ≤ 140737488351232) : Calls Tryz.prog 16 #[.slice a n c] w fun e w' => e = .returned (.agg (B8 (dref b))) ∧ Below w.heap.size w w' :=
  Di.rof_any a n c b w (h.i.inB h.nil) h.b (by rw [h.l]; exact hn)
theorem dref_len (b : List Int) : (dref b).length = 32 := Di.dref_len b
theorem Zi3 (b : List Int) : isB (dref b) := fun x hx => by
  unfold dref Di.dig at hx
  obtain ⟨i, _, rfl⟩ := List.mem_map.1 hx
  unfold Di.bt
  omega
theorem Zqx : (fun (d0 d1 d2 d3 d4 d5 d6 d7 d8 d9 d10 d11 d12 d13 d14 d15 d16 d17 d18 d19 d20 d21 d22 d23 d24 d25 d26 d27 d28 d29 d30 d31 : Int) => Tryz.prog.built 65 [(0, .int .i64 2), (1, .agg (B8 [d0, d1, d2, d3, d4, d5, d6, d7, d8, d9, d10, d11, d12, d13, d14, d15, d16, d17, d18, d19, d20, d21, d22, d23, d24, d25, d26, d27, d28, d29, d30, d31]))]) = fun d0 d1 d2 d3 d4 d5 d6 d7 d8 d9 d10 d11 d12 d13 d14 d15 d16 d17 d18 d19 d20 d21 d22 d23 d24 d25 d26 d27 d28 d29 d30 d31 => some (RV.cells ⟨2, [d0, d1, d2, d3, d4, d5, d6, d7, d8, d9, d10, d11, d12, d13, d14, d15, d16, d17, d18, d19, d20, d21, d22, d23, d24, d25, d26, d27, d28, d29, d30, d31], none, 0, 0⟩).toArray := by kernel_rfl
theorem Zkh (ds : List Int) (h : ds.length = 32) : Tryz.prog.built 65 [(0, .int .i64 2), (1, .agg (B8 ds))] = some (RV.cells ⟨2, ds, none, 0, 0⟩).toArray := by
  match ds, h with
  | [d0, d1, d2, d3, d4, d5, d6, d7, d8, d9, d10, d11, d12, d13, d14, d15, d16, d17, d18, d19, d20, d21, d22, d23, d24, d25, d26, d27, d28, d29, d30, d31], _ =>
    have e := Zqx
    have e := congrFun e d0
    have e := congrFun e d1
    have e := congrFun e d2
    have e := congrFun e d3
    have e := congrFun e d4
    have e := congrFun e d5
    have e := congrFun e d6
    have e := congrFun e d7
    have e := congrFun e d8
    have e := congrFun e d9
    have e := congrFun e d10
    have e := congrFun e d11
    have e := congrFun e d12
    have e := congrFun e d13
    have e := congrFun e d14
    have e := congrFun e d15
    have e := congrFun e d16
    have e := congrFun e d17
    have e := congrFun e d18
    have e := congrFun e d19
    have e := congrFun e d20
    have e := congrFun e d21
    have e := congrFun e d22
    have e := congrFun e d23
    have e := congrFun e d24
    have e := congrFun e d25
    have e := congrFun e d26
    have e := congrFun e d27
    have e := congrFun e d28
    have e := congrFun e d29
    have e := congrFun e d30
    have e := congrFun e d31
    exact e
theorem Zwe {fn : Func} {p : Tmp} (h : fn.results = #[.cell p 65]) {post : Ending → World → Prop} {Q : Exit → Act → World → Prop} {a : Act} {w : World} (hQ : bodyPost Tryz.prog fn post .ret a w → Q .ret a w) (g : Nat) (y : RV) (hl : y.d.length = 32)
    (hp : a.tmps.getD p undef = .pointer (some ⟨g, 0, none⟩)) (hd : a.defers = []) (hg : w.heap[g]? = some (.cells y.cells.toArray 65)) (hpost : post (.returned (.agg y.cells.toArray)) w) :
    Code.wp Tryz.prog .ret Q a w := wp_ret (hQ <| bodyPost_ret (Zge h _ _ g y hl hp hg) hd hpost)
def referP (b : List Int) : PR := if b.length < 32 then ⟨1, z32, b⟩ else ⟨2, dref b, []⟩
def RfPost (w : World) (b : List Int) : Ending → World → Prop := fun e w' => (∃ y : RV, e = .returned (.agg y.cells.toArray) ∧ RefAt (Own w.heap.size w') w' y (referP b)) ∧ Below w.heap.size w w'
set_option maxHeartbeats 4000000 in
theorem Zo0 (a : Option Addr) (n c : Nat) (b : List Int) (w : World) (h : Ag w a n c b) (hn : n ≤ 140737488351232) : Calls Tryz.prog 102 #[.slice a n c] w (RfPost w b) := by
  have hl := h.l
  by_cases h32 : n < 32
  · have hr : referP b = ⟨1, z32, b⟩ := by unfold referP; rw [if_pos (by omega)]
    unfold RfPost
    rw [hr]
    exact Zkr a n c b w h h32
  · have hr : referP b = ⟨2, dref b, []⟩ := by unfold referP; rw [if_neg (by omega)]
    unfold RfPost
    rw [hr]
    have h32i : (n : Int) ≥ 32 := by omega
    have HOF := Hid.mk (fun v (hv : Below w.heap.size w v) => Zk9 a n c b v (h.at hv) hn)
    have HDL := Hid.mk (dref_len b)
    have HDB := Hid.mk (Zi3 b)
    obtain ⟨ds, hds⟩ : ∃ ds, dref b = ds := ⟨_, rfl⟩
    rw [hds] at HOF HDL HDB ⊢
    clear hr h hl hds
    go_enter Tryz.func102, Tryz.ntmps102
    go_upto_region 1 with fail
    refine gen_w (p := fun v => Code.wp _ _ _ _ v) (q := fun v => v.heap[w.heap.size]? = some (.cells rz.cells.toArray 65) ∧ Below w.heap.size w v) ⟨heap_alloc_new _ _, below_new _ _⟩ ?_
    rintro v ⟨hrow, hb⟩
    have HROW := Hid.mk hrow
    have HB := Hid.mk hb
    clear hrow hb
    go_upto_region 2 with fail
    rename_i KK hkk
    refine wp_region_lit ?_
    refine Zcf 7 (.slice a n c) rfl (by kernel_rfl) (by kernel_rfl) ?_
    refine Zun 8 rfl (by kernel_rfl) 27 #[.slice a n c] (by kernel_rfl) (R := fun val w' => val = .agg (B8 ds) ∧ Below v.heap.size v w') ((HOF.out v HB.out).mono (fun e w' h => ⟨_, h.1, rfl, h.2⟩)) ?_
    rintro val w1 ⟨rfl, hb1⟩
    have hrow1 := Below.row hb1 HROW.out
    refine Zcf 9 (.agg (RV.cells ⟨2, ds, none, 0, 0⟩).toArray) rfl (by kernel_rfl) (Zdz 65 _ rfl [(0, .int .i64 2), (1, .agg (B8 ds))] (by kernel_rfl) _ (Zkh ds HDL.out)) ?_
    refine Zkl rfl (by kernel_rfl) (Zck 65 _ _ rfl w.heap.size (RV.cells ⟨2, ds, none, 0, 0⟩).toArray (by kernel_rfl) (by kernel_rfl) 65 rz.cells.toArray hrow1 (Zbw HDL.out) (Zbq HDL.out) (all_oneCell_toArray (RV.one _))) ?_
    refine hkk _ _ ?_
    refine Zwe (post := fun e w' => (∃ y : RV, e = .returned (.agg y.cells.toArray) ∧ RefAt (Own w.heap.size w') w' y ⟨2, ds, []⟩) ∧ Below w.heap.size w w') Tryz.results102 (fun h => h) w.heap.size ⟨2, ds, none, 0, 0⟩ HDL.out (by kernel_rfl) (by kernel_rfl) (setRow_heap _ _ _ _ _ _ hrow1) ?_
    exact ⟨⟨⟨2, ds, none, 0, 0⟩, rfl, rfl, rfl, HDB.out, HDL.out, Zha _ _⟩, Below.setRow (below_go HB.out hb1) (Nat.le_refl _) _⟩
end Go.Proofs.YtchgejomcgoaeaaGreat

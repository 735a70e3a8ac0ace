/- What Refer, EmptyRoot and EmptyCode answer, the program's and the document's. -/
import Derived.Test.YtamibjgahcpkcaaG32
import Derived.Test.YtamibjgahcpkcaaG20
import Derived.Test.YtamibjgahcpkcaaG37
import Derived.Test.YtamibjgahcpkcaaG28
namespace Go.Proofs.Ytamibjgahcpkcaa
open Go.RowKit
open Di (dref)
set_option linter.unusedVariables false
set_option maxRecDepth 100000
theorem built_R2f : (fun (d0 d1 d2 d3 d4 d5 d6 d7 d8 d9 d10 d11 d12 d13 d14 d15 d16 d17 d18 d19 d20 d21 d22 d23 d24 d25 d26 d27 d28 d29 d30 d31 : Int) => Try.prog.built 26 [(0, .int .i64 2), (1, .agg (B8 [d0, d1, d2, d3, d4, d5, d6, d7, d8, d9, d10, d11, d12, d13, d14, d15, d16, d17, d18, d19, d20, d21, d22, d23, d24, d25, d26, d27, d28, d29, d30, d31]))]) = fun d0 d1 d2 d3 d4 d5 d6 d7 d8 d9 d10 d11 d12 d13 d14 d15 d16 d17 d18 d19 d20 d21 d22 d23 d24 d25 d26 d27 d28 d29 d30 d31 => some (RV.cells ⟨2, [d0, d1, d2, d3, d4, d5, d6, d7, d8, d9, d10, d11, d12, d13, d14, d15, d16, d17, d18, d19, d20, d21, d22, d23, d24, d25, d26, d27, d28, d29, d30, d31], none, 0, 0⟩).toArray := by kernel_rfl
theorem built_R2d (ds : List Int) (h : ds.length = 32) : Try.prog.built 26 [(0, .int .i64 2), (1, .agg (B8 ds))] = some (RV.cells ⟨2, ds, none, 0, 0⟩).toArray := by
  match ds, h with
  | [d0, d1, d2, d3, d4, d5, d6, d7, d8, d9, d10, d11, d12, d13, d14, d15, d16, d17, d18, d19, d20, d21, d22, d23, d24, d25, d26, d27, d28, d29, d30, d31], _ =>
    have e := built_R2f
    have e := congrFun e d0
    have e := congrFun e d1
    have e := congrFun e d2
    have e := congrFun e d3
    have e := congrFun e d4
    have e := congrFun e d5
    have e := congrFun e d6
    have e := congrFun e d7
    have e := congrFun e d8
    have e := congrFun e d9
    have e := congrFun e d10
    have e := congrFun e d11
    have e := congrFun e d12
    have e := congrFun e d13
    have e := congrFun e d14
    have e := congrFun e d15
    have e := congrFun e d16
    have e := congrFun e d17
    have e := congrFun e d18
    have e := congrFun e d19
    have e := congrFun e d20
    have e := congrFun e d21
    have e := congrFun e d22
    have e := congrFun e d23
    have e := congrFun e d24
    have e := congrFun e d25
    have e := congrFun e d26
    have e := congrFun e d27
    have e := congrFun e d28
    have e := congrFun e d29
    have e := congrFun e d30
    have e := congrFun e d31
    exact e
theorem h_at {w v : World} {a : Option Addr} {n c : Nat} {b : List Int} (h : Ag w a n c b) (hb : Below w.heap.size w v) : Ag v a n c b := h.at hb
theorem rd_none {a : Act} {w : World} {o : Oper} (ho : o.op = .buildSlice 22 0 #[]) : (execOp a.eval o).run Try.prog w = .ok (.value (.slice (some ⟨w.heap.size, 0, none⟩) 0 0)) (w.alloc (.cells #[] 5)) := by
  unfold execOp
  rw [ho]
  go_simp
theorem end_ref {fn : Func} {p : Tmp} (h : fn.results = #[.cell p 26]) {post : Ending → World → Prop} {Q : Exit → Act → World → Prop} {a : Act} {w : World} (hQ : bodyPost Try.prog fn post .ret a w → Q .ret a w) (g : Nat) (y : RV) (hl : y.d.length = 32)
    (hp : a.tmps.getD p undef = .pointer (some ⟨g, 0, none⟩)) (hd : a.defers = []) (hg : w.heap[g]? = some (.cells y.cells.toArray 26)) (hpost : post (.returned (.agg y.cells.toArray)) w) :
    Code.wp Try.prog .ret Q a w := wp_ret (hQ <| bodyPost_ret (results_one h _ _ g y hl hp hg) hd hpost)
def referP (b : List Int) : PR := if b.length < 32 then ⟨1, z32, b⟩ else ⟨2, dref b, []⟩
theorem dof_any (a : Option Addr) (n c : Nat) (b : List Int) (w : World) (h : Ag w a n c b) (hn : n ≤ 140737488351232) : Calls Try.prog 43 #[.slice a n c] w fun e w' => e = .returned (.agg (B8 (dref b))) ∧ Below w.heap.size w w' :=
  Di.of_any a n c b w h.i h.l.symm h.b (by omega)
theorem rdof_any (a : Option Addr) (n c : Nat) (b : List Int) (w : World) (h : Ag w a n c b) (hn : n ≤ 140737488351232) : Calls Try.prog 44 #[.slice a n c] w fun e w' => e = .returned (.agg (B8 (dref b))) ∧ Below w.heap.size w w' :=
  Di.rof_any a n c b w (h.i.inB h.nil) h.b (by rw [h.l]; exact hn)
theorem dref_len (b : List Int) : (dref b).length = 32 := Di.dref_len b
theorem dref_isB (b : List Int) : isB (dref b) := fun x hx => by
  unfold dref Di.dig at hx
  obtain ⟨i, _, rfl⟩ := List.mem_map.1 hx
  unfold Di.bt
  omega
def RfPost (w : World) (b : List Int) : Ending → World → Prop := fun e w' => (∃ y : RV, e = .returned (.agg y.cells.toArray) ∧ RefAt (Own w.heap.size w') w' y (referP b)) ∧ Below w.heap.size w w'
set_option maxHeartbeats 4000000 in
theorem refer_any (a : Option Addr) (n c : Nat) (b : List Int) (w : World) (h : Ag w a n c b) (hn : n ≤ 140737488351232) : Calls Try.prog 19 #[.slice a n c] w (RfPost w b) := by
  have hl := h.l
  by_cases h32 : n < 32
  · have hr : referP b = ⟨1, z32, b⟩ := by unfold referP; rw [if_pos (by omega)]
    unfold RfPost
    rw [hr]
    exact refer_short a n c b w h h32
  · have hr : referP b = ⟨2, dref b, []⟩ := by unfold referP; rw [if_neg (by omega)]
    unfold RfPost
    rw [hr]
    have h32i : (n : Int) ≥ 32 := by omega
    have HOF := Hid.mk (fun v (hv : Below w.heap.size w v) => dof_any a n c b v (h.at hv) hn)
    have HDL := Hid.mk (dref_len b)
    have HDB := Hid.mk (dref_isB b)
    obtain ⟨ds, hds⟩ : ∃ ds, dref b = ds := ⟨_, rfl⟩
    rw [hds] at HOF HDL HDB ⊢
    clear hr h hl hds
    go_enter Try.func19, Try.ntmps19
    go_upto_region 1 with fail
    refine gen_w (p := fun v => Code.wp _ _ _ _ v) (q := fun v => v.heap[w.heap.size]? = some (.cells rz.cells.toArray 26) ∧ Below w.heap.size w v) ⟨heap_alloc_new _ _, below_new _ _⟩ ?_
    rintro v ⟨hrow, hb⟩
    have HROW := Hid.mk hrow
    have HB := Hid.mk hb
    clear hrow hb
    go_upto_region 2 with fail
    rename_i KK hkk
    refine wp_region_lit ?_
    refine wl_pure 7 (.slice a n c) rfl (by kernel_rfl) (by kernel_rfl) ?_
    refine wl_call 8 rfl (by kernel_rfl) 43 #[.slice a n c] (by kernel_rfl) (R := fun val w' => val = .agg (B8 ds) ∧ Below v.heap.size v w') ((HOF.out v HB.out).mono (fun e w' h => ⟨_, h.1, rfl, h.2⟩)) ?_
    rintro val w1 ⟨rfl, hb1⟩
    have hrow1 := Below.row hb1 HROW.out
    refine wl_pure 9 (.agg (RV.cells ⟨2, ds, none, 0, 0⟩).toArray) rfl (by kernel_rfl) (rd_build 26 _ rfl [(0, .int .i64 2), (1, .agg (B8 ds))] (by kernel_rfl) _ (built_R2d ds HDL.out)) ?_
    refine wl_skip rfl (by kernel_rfl) (rd_store 26 _ _ rfl w.heap.size (RV.cells ⟨2, ds, none, 0, 0⟩).toArray (by kernel_rfl) (by kernel_rfl) 26 rz.cells.toArray hrow1 (infoR' HDL.out) (rz_size HDL.out) (all_oneCell_toArray (RV.one _))) ?_
    refine hkk _ _ ?_
    refine end_ref (post := fun e w' => (∃ y : RV, e = .returned (.agg y.cells.toArray) ∧ RefAt (Own w.heap.size w') w' y ⟨2, ds, []⟩) ∧ Below w.heap.size w w') Try.results19 (fun h => h) w.heap.size ⟨2, ds, none, 0, 0⟩ HDL.out (by kernel_rfl) (by kernel_rfl) (setRow_heap _ _ _ _ _ _ hrow1) ?_
    exact ⟨⟨⟨2, ds, none, 0, 0⟩, rfl, rfl, rfl, HDB.out, HDL.out, agk_nil _ _⟩, Below.setRow (below_go HB.out hb1) (Nat.le_refl _) _⟩
set_option maxHeartbeats 4000000 in
theorem rrefer_any (a : Option Addr) (n c : Nat) (b : List Int) (w : World) (h : Ag w a n c b) (hn : n ≤ 140737488351232) : Calls Try.prog 21 #[.slice a n c] w (RfPost w b) := by
  have hl := h.l
  by_cases h32 : n < 32
  · have hr : referP b = ⟨1, z32, b⟩ := by unfold referP; rw [if_pos (by omega)]
    unfold RfPost
    rw [hr]
    have h32i : (n : Int) < 32 := by omega
    have HAG := Hid.mk h
    have HLB := Hid.mk hl
    clear hr h hl
    go_enter Try.func21, Try.ntmps21
    go_upto_region 1 with fail
    refine gen_w (p := fun v => Code.wp _ _ _ _ v) (q := fun v => v.heap[w.heap.size]? = some (.cells rz.cells.toArray 26) ∧ Below w.heap.size w v ∧ w.heap.size + 1 ≤ v.heap.size) ⟨heap_alloc_new _ _, below_new _ _, by simp⟩ ?_
    rintro v ⟨hrow, hb, hsz⟩
    have HROW := Hid.mk hrow
    have HB := Hid.mk hb
    have HSZ := Hid.mk hsz
    have HA2 := Hid.mk (h_at HAG.out hb)
    clear hrow hb hsz
    go_upto_region 2 with fail
    rename_i KK hkk
    refine wp_region_lit ?_
    refine wl_run 6 (.slice (some ⟨v.heap.size, 0, none⟩) 0 0) rfl (by kernel_rfl) (rd_none rfl) ?_
    refine wl_pure 7 (.slice a n c) rfl (by kernel_rfl) (by kernel_rfl) ?_
    have hag2 := HA2.out.at (below_new v (.cells #[] 5))
    refine app_any rfl (.tmp 6) (.tmp 7) rfl v.heap.size _ [] (by kernel_rfl) (OwnB.new v) a n c b (by kernel_rfl) hag2.i hag2.nil hag2.l (by simp; omega) (by simp) ?_
    intro v1 w1 o1 hb1
    rw [List.nil_append] at o1
    obtain ⟨a1, c1, rfl, hag⟩ := o1.ag HAG.out.b
    rw [HLB.out] at hag ⊢
    have hbv : Below v.heap.size v w1 := (below_new v (.cells #[] 5)).trans hb1
    have hrow1 := Below.row hbv HROW.out
    have hfz : Fr v.heap.size w1 a1 n := fun g off e h0 => by
      rcases o1.2 with ⟨hx, _⟩ | ⟨g', cap', cur, hx, hg', hh, _⟩
      · injection hx with e1; rw [e1] at e; cases e
      · cases hx
        cases e
        exact ⟨hg', fun o => frozen_of_row _ _ _ _ _ hh⟩
    refine wl_pure 9 (.agg (RV.cells ⟨1, z32, a1, n, c1⟩).toArray) rfl (by kernel_rfl) (rd_build 26 _ rfl [(0, .int .i64 1), (2, .slice a1 n c1)] (by kernel_rfl) _ (built_R1 _ _ _)) ?_
    refine wl_skip rfl (by kernel_rfl) (rd_store 26 _ _ rfl w.heap.size (RV.cells ⟨1, z32, a1, n, c1⟩).toArray (by kernel_rfl) (by kernel_rfl) 26 rz.cells.toArray hrow1 (infoR' rfl) (rz_size rfl) (all_oneCell_toArray (RV.one _))) ?_
    refine hkk _ _ ?_
    refine end_ref (post := fun e w' => (∃ y : RV, e = .returned (.agg y.cells.toArray) ∧ RefAt (Own w.heap.size w') w' y ⟨1, z32, b⟩) ∧ Below w.heap.size w w') Try.results21 (fun h => h) w.heap.size ⟨1, z32, a1, n, c1⟩ rfl (by kernel_rfl) (by kernel_rfl) (setRow_heap _ _ _ _ _ _ hrow1) ?_
    refine ⟨⟨⟨1, z32, a1, n, c1⟩, rfl, rfl, rfl, isB_z32, rfl, (show AgK (Own v.heap.size w1) w1 a1 n c1 b from ⟨hag, by omega, fun g off e h0 => hfz g off e h0⟩).go (Keep.setRow (base := v.heap.size) (base' := w.heap.size) (g := w.heap.size) (by have := HSZ.out; omega) (by have := HSZ.out; omega))⟩, Below.setRow (below_go HB.out hbv) (Nat.le_refl _) _⟩
  · have hr : referP b = ⟨2, dref b, []⟩ := by unfold referP; rw [if_neg (by omega)]
    unfold RfPost
    rw [hr]
    have h32i : ¬ (n : Int) < 32 := by omega
    have HOF := Hid.mk (fun v (hv : Below w.heap.size w v) => rdof_any a n c b v (h.at hv) hn)
    have HDL := Hid.mk (dref_len b)
    have HDB := Hid.mk (dref_isB b)
    obtain ⟨ds, hds⟩ : ∃ ds, dref b = ds := ⟨_, rfl⟩
    rw [hds] at HOF HDL HDB ⊢
    clear hr h hl hds
    go_enter Try.func21, Try.ntmps21
    go_upto_region 1 with fail
    refine gen_w (p := fun v => Code.wp _ _ _ _ v) (q := fun v => v.heap[w.heap.size]? = some (.cells rz.cells.toArray 26) ∧ Below w.heap.size w v) ⟨heap_alloc_new _ _, below_new _ _⟩ ?_
    rintro v ⟨hrow, hb⟩
    have HROW := Hid.mk hrow
    have HB := Hid.mk hb
    clear hrow hb
    go_upto_region 3 with fail
    rename_i KK hkk
    refine wp_region_lit ?_
    refine wl_pure 10 (.slice a n c) rfl (by kernel_rfl) (by kernel_rfl) ?_
    refine wl_call 11 rfl (by kernel_rfl) 44 #[.slice a n c] (by kernel_rfl) (R := fun val w' => val = .agg (B8 ds) ∧ Below v.heap.size v w') ((HOF.out v HB.out).mono (fun e w' h => ⟨_, h.1, rfl, h.2⟩)) ?_
    rintro val w1 ⟨rfl, hb1⟩
    have hrow1 := Below.row hb1 HROW.out
    refine wl_pure 12 (.agg (RV.cells ⟨2, ds, none, 0, 0⟩).toArray) rfl (by kernel_rfl) (rd_build 26 _ rfl [(0, .int .i64 2), (1, .agg (B8 ds))] (by kernel_rfl) _ (built_R2d ds HDL.out)) ?_
    refine wl_skip rfl (by kernel_rfl) (rd_store 26 _ _ rfl w.heap.size (RV.cells ⟨2, ds, none, 0, 0⟩).toArray (by kernel_rfl) (by kernel_rfl) 26 rz.cells.toArray hrow1 (infoR' HDL.out) (rz_size HDL.out) (all_oneCell_toArray (RV.one _))) ?_
    refine hkk _ _ ?_
    refine end_ref (post := fun e w' => (∃ y : RV, e = .returned (.agg y.cells.toArray) ∧ RefAt (Own w.heap.size w') w' y ⟨2, ds, []⟩) ∧ Below w.heap.size w w') Try.results21 (fun h => h) w.heap.size ⟨2, ds, none, 0, 0⟩ HDL.out (by kernel_rfl) (by kernel_rfl) (setRow_heap _ _ _ _ _ _ hrow1) ?_
    exact ⟨⟨⟨2, ds, none, 0, 0⟩, rfl, rfl, rfl, HDB.out, HDL.out, agk_nil _ _⟩, Below.setRow (below_go HB.out hb1) (Nat.le_refl _) _⟩
end Go.Proofs.Ytamibjgahcpkcaa
/- What EmptyRoot and EmptyCode answer, the program's and the document's. -/
namespace Go.Proofs.Ytamibjgahcpkcaa
open Go.RowKit
open Di (dref)
set_option linter.unusedVariables false
set_option maxRecDepth 100000
theorem z8_size {ds : List Int} (h : ds.length = 32) : (B8 z32).size = (B8 ds).size := by rw [B8_size, B8_size, h]; rfl
theorem infoD' {ds : List Int} (h : ds.length = 32) : (Try.prog.info? 24).map (·.size) = some (B8 ds).size := by rw [infoD, B8_size, h]
theorem B8_one (bs : List Int) : (B8 bs).all (·.oneCell') = true := all_oneCell_toArray (B8_one2 bs)
theorem enc_t0 : encP t0 = ([128], 0) := by decide +kernel
set_option maxHeartbeats 2000000 in
theorem emptyCode_any (w : World) : Calls Try.prog 24 #[] w fun e w' => e = .returned (.agg (B8 (dref []))) ∧ Below w.heap.size w w' := by
  have HOF := Hid.mk (fun v => dof_any none 0 0 [] v ⟨.inl ⟨rfl, rfl⟩, fun _ => ⟨rfl, rfl⟩, rfl, fun x hx => by cases hx⟩ (by omega))
  have HDL := Hid.mk (dref_len [])
  obtain ⟨ds, hds⟩ : ∃ ds, dref [] = ds := ⟨_, rfl⟩
  rw [hds] at HOF HDL ⊢
  clear hds
  go_enter Try.func24, Try.ntmps24
  go_upto_region 1 with fail
  refine gen_w (p := fun v => Code.wp _ _ _ _ v) (q := fun v => v.heap[w.heap.size]? = some (.cells (B8 z32) 24) ∧ Below w.heap.size w v) ⟨heap_alloc_new _ _, below_new _ _⟩ ?_
  rintro v ⟨hrow, hb⟩
  have HROW := Hid.mk hrow
  have HB := Hid.mk hb
  clear hrow hb
  go_wp2_with fail
  refine (HOF.out v).mono ?_
  rintro e w1 ⟨rfl, hb1⟩
  have HR1 := Hid.mk (Below.row hb1 HROW.out)
  have HB1 := Hid.mk (below_go HB.out hb1)
  clear hb1
  go_wp2_with (first | refine wpList_store_row rfl 24 _ _ rfl _ (B8 ds) rfl rfl 24 _ HR1.out (infoD' HDL.out) (z8_size HDL.out) (B8_one _) ?_)
  refine bodyPost_ret (results_cell_row Try.results24 _ _ w.heap.size 24 (B8 ds) (0, 0) _ rfl (setRow_heap _ _ _ _ _ _ HR1.out) Try.underlying24 rfl (infoD' HDL.out)) rfl ?_
  exact ⟨rfl, Below.setRow HB1.out (Nat.le_refl _) _⟩
set_option maxHeartbeats 2000000 in
theorem remptyCode_any (w : World) : Calls Try.prog 25 #[] w fun e w' => e = .returned (.agg (B8 (dref []))) ∧ Below w.heap.size w w' := by
  have HOF := Hid.mk (fun v => rdof_any none 0 0 [] v ⟨.inl ⟨rfl, rfl⟩, fun _ => ⟨rfl, rfl⟩, rfl, fun x hx => by cases hx⟩ (by omega))
  have HDL := Hid.mk (dref_len [])
  obtain ⟨ds, hds⟩ : ∃ ds, dref [] = ds := ⟨_, rfl⟩
  rw [hds] at HOF HDL ⊢
  clear hds
  go_enter Try.func25, Try.ntmps25
  go_upto_region 1 with fail
  refine gen_w (p := fun v => Code.wp _ _ _ _ v) (q := fun v => v.heap[w.heap.size]? = some (.cells (B8 z32) 24) ∧ Below w.heap.size w v) ⟨heap_alloc_new _ _, below_new _ _⟩ ?_
  rintro v ⟨hrow, hb⟩
  have HROW := Hid.mk hrow
  have HB := Hid.mk hb
  clear hrow hb
  go_wp2_with fail
  refine (HOF.out v).mono ?_
  rintro e w1 ⟨rfl, hb1⟩
  have HR1 := Hid.mk (Below.row hb1 HROW.out)
  have HB1 := Hid.mk (below_go HB.out hb1)
  clear hb1
  go_wp2_with (first | refine wpList_store_row rfl 24 _ _ rfl _ (B8 ds) rfl rfl 24 _ HR1.out (infoD' HDL.out) (z8_size HDL.out) (B8_one _) ?_)
  refine bodyPost_ret (results_cell_row Try.results25 _ _ w.heap.size 24 (B8 ds) (0, 0) _ rfl (setRow_heap _ _ _ _ _ _ HR1.out) Try.underlying24 rfl (infoD' HDL.out)) rfl ?_
  exact ⟨rfl, Below.setRow HB1.out (Nat.le_refl _) _⟩
set_option maxHeartbeats 2000000 in
theorem remptyRoot_any (w : World) : Calls Try.prog 23 #[] w fun e w' => e = .returned (.agg (B8 (dref [128]))) ∧ Below w.heap.size w w' := by
  have HOF := Hid.mk (fun (v : World) => rdof_any (some ⟨v.heap.size, 0, none⟩) 1 1 [128] (v.alloc (.cells #[.int .u8 128] 5)) (Ni.row_ag (show Ni.Row v.heap.size (v.alloc (.cells #[.int .u8 128] 5)) [128] from heap_alloc_new _ _) rfl (fun x hx => by simp at hx; omega) (show (1 : Nat) ≤ 9223372036854775807 by decide)) (by omega))
  have HDL := Hid.mk (dref_len [128])
  obtain ⟨ds, hds⟩ : ∃ ds, dref [128] = ds := ⟨_, rfl⟩
  rw [hds] at HOF HDL ⊢
  clear hds
  go_enter Try.func23, Try.ntmps23
  go_upto_region 1 with fail
  refine gen_w (p := fun v => Code.wp _ _ _ _ v) (q := fun v => v.heap[w.heap.size]? = some (.cells (B8 z32) 24) ∧ Below w.heap.size w v) ⟨heap_alloc_new _ _, below_new _ _⟩ ?_
  rintro v ⟨hrow, hb⟩
  have HROW := Hid.mk hrow
  have HB := Hid.mk hb
  clear hrow hb
  go_wp2_with fail
  refine (HOF.out v).mono ?_
  rintro e w1 ⟨rfl, hb1⟩
  have HR1 := Hid.mk (Below.row (below_go (below_new v _) hb1) HROW.out)
  have HB1 := Hid.mk (below_go HB.out (below_go (below_new v _) hb1))
  clear hb1
  go_wp2_with (first | refine wpList_store_row rfl 24 _ _ rfl _ (B8 ds) rfl rfl 24 _ HR1.out (infoD' HDL.out) (z8_size HDL.out) (B8_one _) ?_)
  refine bodyPost_ret (results_cell_row Try.results23 _ _ w.heap.size 24 (B8 ds) (0, 0) _ rfl (setRow_heap _ _ _ _ _ _ HR1.out) Try.underlying24 rfl (infoD' HDL.out)) rfl ?_
  exact ⟨rfl, Below.setRow HB1.out (Nat.le_refl _) _⟩
set_option maxHeartbeats 2000000 in
theorem emptyRoot_any (w : World) : Calls Try.prog 22 #[] w fun e w' => e = .returned (.agg (B8 (dref [128]))) ∧ Below w.heap.size w w' := by
  have HDL := Hid.mk (dref_len [128])
  have HOF := Hid.mk (fun (v : World) (a : Option Addr) (c : Nat) (h : Ag v a 1 c [128]) => dof_any a 1 c [128] v h (by omega))
  obtain ⟨ds, hds⟩ : ∃ ds, dref [128] = ds := ⟨_, rfl⟩
  rw [hds] at HOF HDL ⊢
  clear hds
  have HTX := Hid.mk (fun v => text_any none 0 0 [] v ⟨.inl ⟨rfl, rfl⟩, fun _ => ⟨rfl, rfl⟩, rfl, fun x hx => by cases hx⟩ (by omega))
  go_enter Try.func22, Try.ntmps22
  go_upto_region 1 with fail
  refine gen_w (p := fun v => Code.wp _ _ _ _ v) (q := fun v => v.heap[w.heap.size]? = some (.cells (B8 z32) 24) ∧ Below w.heap.size w v) ⟨heap_alloc_new _ _, below_new _ _⟩ ?_
  rintro v ⟨hrow, hb⟩
  have HROW := Hid.mk hrow
  have HB := Hid.mk hb
  clear hrow hb
  go_wp2_with fail
  refine (HTX.out v).mono ?_
  rintro e w1 ⟨rfl, hr1, hb1⟩
  have hlies := liesP_lies _ _ (liesP_txt (P := fun _ => True) (n := 0) hr1 rfl (fun x hx => by cases hx) (by omega) trivial)
  have hen := encode_own (.mk false [] []) ⟨false, some ⟨v.heap.size + 1, 0, none⟩, 0, 0, none, 0, 0⟩ w1 hlies
  rw [show encP (.mk false [] []) = ([128], 0) from enc_t0] at hen
  have HEN := Hid.mk hen
  have HB1 := Hid.mk (below_go HB.out hb1)
  have HR1 := Hid.mk (Below.row hb1 HROW.out)
  clear hr1 hb1 hlies hen HROW HB
  go_wp2_with fail
  refine HEN.out.mono ?_
  rintro e w2 ⟨⟨a, m, c, rfl, hag, -⟩, hb2⟩
  have hm : m = 1 := hag.l.symm
  subst hm
  have HO2 := Hid.mk (HOF.out w2 a c hag)
  have HB2 := Hid.mk (below_go HB1.out hb2)
  have HR2 := Hid.mk (Below.row hb2 HR1.out)
  clear hag hb2
  go_wp2_with fail
  refine HO2.out.mono ?_
  rintro e w3 ⟨rfl, hb3⟩
  have HR3 := Hid.mk (Below.row hb3 HR2.out)
  have HB3 := Hid.mk (below_go HB2.out hb3)
  clear hb3
  go_wp2_with (first | refine wpList_store_row rfl 24 _ _ rfl _ (B8 ds) rfl rfl 24 _ HR3.out (infoD' HDL.out) (z8_size HDL.out) (B8_one _) ?_)
  refine bodyPost_ret (results_cell_row Try.results22 _ _ w.heap.size 24 (B8 ds) (0, 0) _ rfl (setRow_heap _ _ _ _ _ _ HR3.out) Try.underlying24 rfl (infoD' HDL.out)) rfl ?_
  exact ⟨rfl, Below.setRow HB3.out (Nat.le_refl _) _⟩
end Go.Proofs.Ytamibjgahcpkcaa

/- What the document's ref answers. -/
import Derived.Test.YtamibjgahcpkcaaG28
import Derived.Test.YtamibjgahcpkcaaG12
import Derived.Test.YtamibjgahcpkcaaG15
import Derived.Great.BuildSlice
import Derived.Great.FillDense
import Derived.Test.YtamibjgahcpkcaaG14
namespace Go.Proofs.Ytamibjgahcpkcaa
open Go.RowKit
set_option linter.unusedVariables false
set_option maxRecDepth 100000
def drefP (t : T) : PR := if t.l = true then ⟨1, z32, (encP t).1⟩ else if t.bs.length = 32 then ⟨2, t.bs, []⟩ else r0
def DRPost (w : World) (r : PR) : Ending → World → Prop := fun e w' => (∃ y : RV, e = .returned (.agg y.cells.toArray) ∧ RefAt (fun g => w.heap.size < g) w' y r) ∧ Below w.heap.size w w'
theorem dig_put {bs : List Int} {j : Nat} (hl : bs.length = 32) (hj : j < 32) : (bs.take j ++ List.replicate (32 - j) 0).set j (bs.getD j 0) = bs.take (j + 1) ++ List.replicate (32 - (j + 1)) 0 := by
  have ht : (bs.take j).length = j := by rw [List.length_take]; omega
  rw [List.set_append_right _ _ (by omega), ht, Nat.sub_self, show 32 - j = (32 - (j + 1)) + 1 from by omega, List.replicate_succ, List.set_cons_zero, List.take_add_one, List.getElem?_eq_getElem (by omega), List.append_assoc]
  simp [List.getD, List.getElem?_eq_getElem (show j < bs.length by omega)]
theorem cells_put {k : Int} {d : List Int} {a : Option Addr} {n c j : Nat} {b : Int} (hj : j < d.length) : (RV.cells ⟨k, d, a, n, c⟩).toArray.setIfInBounds (1 + j) (.int .u8 b) = (RV.cells ⟨k, d.set j b, a, n, c⟩).toArray := by
  rw [List.setIfInBounds_toArray]
  congr 1
  rw [RV.cells, RV.cells, Nat.add_comm 1 j, List.set_cons_succ, List.set_append_left _ _ (by simpa using hj), List.map_set]
theorem enc_first {t : T} (hl : t.l = true) : (enc t).getD 0 0 ≠ 0 := by
  obtain ⟨l, bs, its⟩ := t
  have hl : l = true := hl
  subst hl
  rw [enc_eq, if_neg (by simp [bare])]
  unfold hd baseOf
  split <;> simp <;> omega
set_option maxHeartbeats 4000000 in
theorem rref_any (t : T) (x : V) (w : World) (h : Lies w t x) :
    Calls Try.prog 42 #[.agg #[.bool x.l, .slice x.ba x.bn x.bc, .slice x.ia x.m x.ic]] w (DRPost w (drefP t)) := by
  obtain ⟨l, bs, its⟩ := t
  obtain ⟨hl, hag, -⟩ := lies_eq.1 h
  have hbn : x.bn ≤ 140737488351232 := (lies_eq.1 h).2.2.2.2.2.1.1
  subst hl
  have HX := Hid.mk h
  have HAG := Hid.mk hag
  obtain ⟨res, hres⟩ : ∃ res, drefP (.mk x.l bs its) = res := ⟨_, rfl⟩
  rw [hres]
  have hres : (if x.l = true then (⟨1, z32, (encP (.mk x.l bs its)).1⟩ : PR) else if bs.length = 32 then ⟨2, bs, []⟩ else r0) = res := hres
  rw [hag.l] at hres
  have HRES := Hid.mk hres
  have HRR := Hid.mk (rr_new w x)
  clear h hag hres
  go_enter Try.func42, Try.ntmps42
  go_upto_region 1 with fail
  refine gen_w (p := fun v => Code.wp _ _ _ _ v) (q := fun v => Rr w v x) HRR.out ?_
  clear HRR
  intro v RR
  have c0 := RR.bx.c0
  have c1 := RR.bx.c1
  have c2 := RR.bx.c2
  have HRR := Hid.mk RR
  clear RR
  by_cases hxl : x.l = true
  · have hE := rencode_any (.mk x.l bs its) x v (lies_mono HRR.out.bel _ x HX.out)
    have hres := HRES.out
    rw [if_pos hxl] at hres
    have HF := Hid.mk (show (encP (.mk x.l bs its)).1.length ≤ 16777220 from by
      by_cases hm : (mP (.mk x.l bs its)).2 = 0
      · rw [encP_yes hm]; exact enc_le hm
      · rw [encP_no hm]; simp)
    obtain ⟨en, hen⟩ : ∃ en, (encP (.mk x.l bs its)).1 = en := ⟨_, rfl⟩
    rw [hen] at hE HF hres
    subst hres
    obtain ⟨er, her⟩ : ∃ er, (encP (.mk x.l bs its)).2 = er := ⟨_, rfl⟩
    rw [her] at hE
    clear hen her
    rw [hxl] at c0 hE
    have HE2 := Hid.mk hE
    clear hE HRES
    go_wp2_with fail
    refine HE2.out.mono ?_
    rintro e w1 ⟨⟨a, n, c, rfl, hag, hnw⟩, hb⟩
    have R1 := HRR.out.go hb
    have HAGK := Hid.mk (show AgK (fun g => w.heap.size + 2 ≤ g) w1 a n c en from ⟨hag, by have := hag.l; have := HF.out; omega, fun g off e _ => by have := hnw (by first | exact trivial | rfl) g off e; have := HRR.out.sz; omega⟩)
    have HR1 := Hid.mk R1
    have hl32 : z32.length = 32 := rfl
    clear hag hb R1 hnw
    go_wp2_with (first | refine wpList_store_row rfl 26 _ _ rfl _ (RV.cells ⟨1, z32, a, n, c⟩).toArray rfl rfl 26 _ HR1.out.row (infoR' rfl) (rz_size rfl) (all_oneCell_toArray (RV.one _)) ?_)
    refine bodyPost_ret (results_cell_row Try.results42 _ _ (w.heap.size + 1) 26 _ (0, 0) _ rfl (setRow_heap _ _ _ _ _ _ HR1.out.row) Try.underlying26 rfl (infoR' (y := ⟨1, z32, a, n, c⟩) rfl)) rfl ?_
    exact ⟨⟨⟨1, z32, a, n, c⟩, rfl, rfl, rfl, isB_z32, rfl, HAGK.out.go (fun g hK _ => ⟨setRow_other _ _ _ _ (by omega), by omega⟩)⟩, Below.setRow HR1.out.bel (by omega) _⟩
  · have hres := HRES.out
    rw [if_neg hxl] at hres
    have hxf : x.l = false := by simpa using hxl
    rw [hxf] at c0
    clear hxf hxl HRES HX
    by_cases h32 : x.bn = 32
    · rw [if_pos h32] at hres
      subst hres
      have hz := HAG.out
      rw [h32] at hz c1
      obtain ⟨g, off, hba, hnc, hcm, hcs⟩ := ag_head hz (by omega)
      unfold maxLen at hcm
      rw [hba] at c1
      have HBL := Hid.mk hz.l
      have HBB := Hid.mk hz.b
      have HCS := Hid.mk (show ∀ u, Below w.heap.size w u → ∀ j, j < 32 → u.cell? ⟨g, off + j, none⟩ = some (.int .u8 (bs.getD j 0)) from fun u hu j hj => below_cell hu (hcs j hj))
      have HRB := Hid.mk hba
      have HR32 := Hid.mk h32
      have HVS := Hid.mk HRR.out.sz
      clear hz hcs h32 hba
      go_upto_region 6 with (first | refine wpList_store_row rfl 26 _ _ rfl _ (RV.cells ⟨2, z32, none, 0, 0⟩).toArray rfl rfl 26 _ (heap_alloc_new _ _) (infoR' rfl) (rz_size rfl) (all_oneCell_toArray (RV.one _)) ?_)
      obtain ⟨gB, hgB⟩ : ∃ gB, v.heap.size = gB := ⟨_, rfl⟩
      refine gen_w (p := fun v => Code.wp _ _ _ _ v) (q := fun u => RBx gB u ⟨2, z32, none, 0, 0⟩ ∧ Rr w u x) ⟨⟨by rw [← hgB]; exact setRow_heap _ _ _ _ _ _ (heap_alloc_new _ _), rfl⟩, HRR.out.go (Below.setRow (below_new v _) (Nat.le_refl _) _)⟩ ?_
      rintro u0 ⟨B2, R2⟩
      rw [hgB] at HVS ⊢
      have HB0 := Hid.mk B2
      have HR0 := Hid.mk R2
      clear B2 R2 hgB c0 c1 c2 HRR
      go_wp2_with fail
      go_loopw [6] (fun s6 u => ∃ j : Nat, j ≤ 32 ∧ s6 = .int .i64 j ∧ RBx gB u ⟨2, bs.take j ++ List.replicate (32 - j) 0, none, 0, 0⟩ ∧ Rr w u x) (fun s6 _ => 32 - (intOf s6).toNat)
      case atStart => exact ⟨0, by omega, rfl, HB0.out, HR0.out⟩
      case round =>
        obtain ⟨j, hj, rfl, hB, hR⟩ := hrel
        have HB := Hid.mk hB
        have HR := Hid.mk hR
        clear hB hR HB0 HR0
        by_cases hlt : j < 32
        · have hji : (j : Int) < 32 := by omega
          have d1 := HR.out.bx.c1
          rw [HRB.out, HR32.out] at d1
          have hc := HCS.out _ HR.out.bel j hlt
          have hf := HB.out.fz
          obtain ⟨old, hold⟩ : ∃ old, wr.cell? ⟨gB, 1 + j, none⟩ = some old := by
            rw [HB.out.at]
            exact ⟨_, List.getElem?_eq_getElem (by rw [RV.len HB.out.l]; omega)⟩
          have HPUT := Hid.mk (show RBx gB (wr.setCell ⟨gB, 1 + j, none⟩ (.int .u8 (bs.getD j 0))) ⟨2, bs.take (j + 1) ++ List.replicate (32 - (j + 1)) 0, none, 0, 0⟩ from by
            have hll := HB.out.l
            have e := heap_setCell_same wr gB (1 + j) _ 26 (.int .u8 (bs.getD j 0)) HB.out.row
            rw [cells_put (d := bs.take j ++ List.replicate (32 - j) 0) (Nat.lt_of_lt_of_eq hlt hll.symm), dig_put HBL.out hlt] at e
            exact ⟨e, by show (bs.take (j + 1) ++ List.replicate (32 - (j + 1)) 0).length = 32; rw [List.length_append, List.length_take, List.length_replicate, HBL.out]; omega⟩)
          have HRP := Hid.mk (show Rr w (wr.setCell ⟨gB, 1 + j, none⟩ (.int .u8 (bs.getD j 0))) x from by
            have hv := HVS.out
            have ho : ∀ k, k ≠ gB → (wr.setCell ⟨gB, 1 + j, none⟩ (.int .u8 (bs.getD j 0))).heap[k]? = wr.heap[k]? := fun k hk => heap_setCell_other _ _ _ _ hk
            have hcl : ∀ o, (wr.setCell ⟨gB, 1 + j, none⟩ (.int .u8 (bs.getD j 0))).cell? ⟨w.heap.size, o, none⟩ = wr.cell? ⟨w.heap.size, o, none⟩ := fun o => World.cell?_of_block (ho w.heap.size (by omega))
            exact ⟨(ho _ (by omega)).trans HR.out.row, ⟨(hcl _).trans HR.out.bx.c0, (hcl _).trans HR.out.bx.c1, (hcl _).trans HR.out.bx.c2⟩, HR.out.bel.setCell (by show w.heap.size ≤ gB; omega) _, by simpa using HR.out.sz⟩)
          have hjl : j < bs.length := by have := HBL.out; omega
          have hbb := HBB.out (bs.getD j 0) (by simp [List.getD, List.getElem?_eq_getElem hjl])
          clear hjl
          generalize bs.getD j 0 = bj at hc HPUT HRP hbb
          go_wp2_with fail
          exact ⟨⟨j + 1, by omega, by simp, HPUT.out, HRP.out⟩, by simp [intOf]; omega⟩
        · have hji : ¬ (j : Int) < 32 := by omega
          have hB := HB.out
          have hj32 : j = 32 := by omega
          subst hj32
          rw [show bs.take 32 ++ List.replicate (32 - 32) 0 = bs from by rw [List.take_of_length_le (by rw [HBL.out]; omega)]; simp] at hB
          have HB3 := Hid.mk hB
          clear hB HB
          go_wp2_with (first | refine wpl_loadR rfl _ rfl gB 0 rfl ⟨2, bs, none, 0, 0⟩ HBL.out HB3.out.all ?_ | refine wpList_store_row rfl 26 _ _ rfl _ (RV.cells ⟨2, bs, none, 0, 0⟩).toArray rfl rfl 26 _ HR.out.row (infoR' HBL.out) (rz_size HBL.out) (all_oneCell_toArray (RV.one _)) ?_)
          refine bodyPost_ret (results_cell_row Try.results42 _ _ (w.heap.size + 1) 26 _ (0, 0) _ rfl (setRow_heap _ _ _ _ _ _ HR.out.row) Try.underlying26 rfl (infoR' (y := ⟨2, bs, none, 0, 0⟩) HBL.out)) rfl ?_
          exact ⟨⟨⟨2, bs, none, 0, 0⟩, rfl, rfl, rfl, HBB.out, HBL.out, agk_nil _ _⟩, Below.setRow HR.out.bel (by omega) _⟩
    · rw [if_neg h32] at hres
      subst hres
      have h32i : ¬ (x.bn : Int) = 32 := by omega
      go_wp2_with (first | refine wpList_store_row rfl 26 _ _ rfl _ rz.cells.toArray rfl rfl 26 _ HRR.out.row (infoR' rfl) (rz_size rfl) (all_oneCell_toArray (RV.one _)) ?_)
      refine bodyPost_ret (results_cell_row Try.results42 _ _ (w.heap.size + 1) 26 _ (0, 0) _ rfl (setRow_heap _ _ _ _ _ _ HRR.out.row) Try.underlying26 rfl (infoR' (y := rz) rfl)) rfl ?_
      exact ⟨⟨rz, rfl, refAt_zero _ _⟩, Below.setRow HRR.out.bel (by omega) _⟩
end Go.Proofs.Ytamibjgahcpkcaa
/- A new row of one reference. -/
namespace Go.Proofs.Ytamibjgahcpkcaa
open Go.RowKit
set_option linter.unusedVariables false
set_option maxRecDepth 100000
theorem run_buildR (w : World) (r : RV) (hl : r.d.length = 32) : (Instr.buildSlice 27 1 #[(0, .agg r.cells.toArray)]).run Try.prog w = .ok (.slice (some ⟨w.heap.size, 0, none⟩) 1 1) (w.alloc (.cells r.cells.toArray 26)) := by
  obtain ⟨i, hi, hz, hsz, hby⟩ := infoRz
  refine run_buildSlice w 27 26 1 _ r.cells.toArray i _ Try.underlying27 hi hz (by rw [hsz]; omega) (by rw [hsz]; omega) ?_
  rw [hsz]
  have h := Great.fill_whole (s := 34) (by omega) [.agg r.cells.toArray] ((Array.range (1 * 34)).map ((Value.agg rz.cells.toArray).cells[· % (Value.agg rz.cells.toArray).cells.size]!)) (fun v hv => by
    simp only [List.mem_cons, List.not_mem_nil, or_false] at hv
    subst hv
    show r.cells.toArray.size = 34
    rw [List.size_toArray, RV.len hl]) (by simp)
  refine h.trans ?_
  simp [Value.cells]
theorem rd_buildR {a : Act} {w : World} {x : Operand} {o : Oper} (ho : o.op = .buildSlice 27 1 #[(0, x)]) (r : RV) (hl : r.d.length = 32) (hx : a.eval x = .agg r.cells.toArray) :
    (execOp a.eval o).run Try.prog w = .ok (.value (.slice (some ⟨w.heap.size, 0, none⟩) 1 1)) (w.alloc (.cells r.cells.toArray 26)) := by
  unfold execOp
  rw [ho]
  simp only [List.map_toArray, List.map_cons, List.map_nil, hx, Sem.run_bind, run_buildR w r hl, Result.andThen_ok, Sem.run_pure]
theorem rd_app {a : Act} {w w' : World} {s x : Operand} {o : Oper} (ho : o.op = .call { callee := .builtin .append, args := #[s, x], argTypes := #[27, 27] }) (v u : Value) (hd : a.eval s = v) (hx : a.eval x = u) {v' : Value}
    (hr : (Builtin.append_ #[27, 27] o.type #[v, u]).run Try.prog w = .ok v' w') : (execOp a.eval o).run Try.prog w = .ok (.value v') w' := by
  simp [execOp, ho, resolve, invoke, builtin, hd, hx, hr, Result.andThen]
end Go.Proofs.Ytamibjgahcpkcaa
/- What Refer answers of fewer than 32 bytes. -/
namespace Go.Proofs.Ytamibjgahcpkcaa
open Go.RowKit
set_option linter.unusedVariables false
set_option maxRecDepth 100000
theorem results_one {fn : Func} {p : Tmp} (h : fn.results = #[.cell p 26]) (tmps : Array Value) (w : World) (g : Nat) (y : RV) (hl : y.d.length = 32) (hp : tmps.getD p undef = .pointer (some ⟨g, 0, none⟩)) (hg : w.heap[g]? = some (.cells y.cells.toArray 26)) :
    (results fn tmps).run Try.prog w = .ok (.agg y.cells.toArray) w :=
  results_cell_row h tmps w g 26 y.cells.toArray (0, 0) _ hp hg Try.underlying26 rfl (infoR' hl)
set_option maxHeartbeats 4000000 in
theorem refer_short (a : Option Addr) (n c : Nat) (b : List Int) (w : World) (h : Ag w a n c b) (hn : n < 32) :
    Calls Try.prog 19 #[.slice a n c] w fun e w' => (∃ y : RV, e = .returned (.agg y.cells.toArray) ∧ RefAt (Own w.heap.size w') w' y ⟨1, z32, b⟩) ∧ Below w.heap.size w w' := by
  have hmk := run_make_row' (P := Try.prog) 22 5 (.int .u8 0) 1 Try.underlying22 info5b rfl .i64 .i64 n (by omega) (by omega)
  obtain ⟨w0, hw0⟩ : ∃ w0, w.alloc (.cells rz.cells.toArray 26) = w0 := ⟨_, rfl⟩
  have hs0 : w0.heap.size = w.heap.size + 1 := by rw [← hw0]; simp
  have hbw0 : Below w.heap.size w w0 := by rw [← hw0]; exact below_new _ _
  have hres : w0.heap[w.heap.size]? = some (.cells rz.cells.toArray 26) := by rw [← hw0]; exact heap_alloc_new _ _
  have hrow : Row w0.heap.size (w0.alloc (.cells (madeCells #[.int .u8 0] n) 5)) (List.replicate n 0) := by
    unfold Row; rw [heap_alloc_new, made_bytes]
  have hbw : Below w.heap.size w (w0.alloc (.cells (madeCells #[.int .u8 0] n) 5)) := hbw0.alloc (by omega) _
  obtain ⟨w1, hrun, hrow1, ht⟩ := copy_row (o := 0) (dl := n) (dc := n) (da := some ⟨w0.heap.size, 0, none⟩) hrow (h.at hbw) rfl (by simp) (fun _ => rfl)
  rw [List.take_zero, List.nil_append, Nat.zero_add, List.drop_of_length_le (by simp), List.append_nil] at hrow1
  have hres1 : w1.heap[w.heap.size]? = some (.cells rz.cells.toArray 26) := (ht.block _ (by simp; omega) (by omega)).trans ((Below.heap_alloc _ _ _ (by omega)).trans hres)
  have hb1 := Touch.below hbw ht (by omega) hbw.size
  have HRUN := Hid.mk hrun
  have HROW := Hid.mk hrow1
  have HB := Hid.mk hb1
  have HRES := Hid.mk hres1
  have HD0 := Hid.mk hbw0
  have HS0 := Hid.mk hs0
  have HLB := Hid.mk h.l
  have HBB := Hid.mk h.b
  have h32 : ¬ (n : Int) ≥ 32 := by omega
  clear hrow hrun hrow1 ht hbw h hbw0 hres hres1 hb1 hs0
  go_enter Try.func19, Try.ntmps19
  go_upto_region 1 with fail
  rw [show (w.alloc (.cells #[.int .i64 0, .int .u8 0, .int .u8 0, .int .u8 0, .int .u8 0, .int .u8 0, .int .u8 0, .int .u8 0, .int .u8 0, .int .u8 0, .int .u8 0, .int .u8 0, .int .u8 0, .int .u8 0, .int .u8 0, .int .u8 0, .int .u8 0, .int .u8 0, .int .u8 0, .int .u8 0, .int .u8 0, .int .u8 0, .int .u8 0, .int .u8 0, .int .u8 0, .int .u8 0, .int .u8 0, .int .u8 0, .int .u8 0, .int .u8 0, .int .u8 0, .int .u8 0, .int .u8 0, .slice none 0 0] 26)) = w0 from hw0]
  clear hw0
  go_wp2_with (first | refine wpl_copy rfl _ _ rfl _ _ rfl rfl (HRUN.out _) ?_ | refine wpList_store_row rfl 26 _ _ rfl _ (RV.cells ⟨1, z32, some ⟨w0.heap.size, 0, none⟩, n, n⟩).toArray rfl rfl 26 _ HRES.out (infoR' rfl) (rz_size rfl) (all_oneCell_toArray (RV.one _)) ?_)
  refine bodyPost_ret (results_one Try.results19 _ _ w.heap.size ⟨1, z32, some ⟨w0.heap.size, 0, none⟩, n, n⟩ rfl rfl (setRow_heap _ _ _ _ _ _ HRES.out)) rfl ?_
  have hne : w0.heap.size ≠ w.heap.size := by have := HS0.out; omega
  have hr2 : Row w0.heap.size (w1.setRow w.heap.size (RV.cells ⟨1, z32, some ⟨w0.heap.size, 0, none⟩, n, n⟩).toArray) b := (setRow_other _ _ _ _ hne).trans HROW.out
  refine ⟨⟨⟨1, z32, some ⟨w0.heap.size, 0, none⟩, n, n⟩, rfl, rfl, rfl, isB_z32, rfl, row_ag (n := n) hr2 HLB.out HBB.out (by omega), by show n ≤ _; omega, fun g off e _ => ?_⟩, Below.setRow HB.out (Nat.le_refl _) _⟩
  cases e
  exact ⟨by have := HS0.out; omega, fun o => frozen_of_row _ _ _ _ _ hr2⟩
end Go.Proofs.Ytamibjgahcpkcaa

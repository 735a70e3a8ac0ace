/- The document's Encode of any node, where the document's Decode of what is inline answers as it should. -/
import Derived.Test.YtdkpilgelgjieaaGreatG28
import Derived.Test.YtdkpilgelgjieaaGreatG14
import Derived.Test.YtdkpilgelgjieaaGreatG20
import Derived.Great.BuildSlice
import Derived.Great.FillDense
import Derived.Test.YtdkpilgelgjieaaGreatG22
import Derived.Test.YtdkpilgelgjieaaGreatG23
import Derived.Test.YtdkpilgelgjieaaGreatG21
set_option linter.unusedVariables false
set_option maxRecDepth 100000
namespace Go.Proofs.YtdkpilgelgjieaaGreat
open Go.RowKit
set_option maxHeartbeats 4000000 in
theorem Zrx (K : Nat -> Prop) (x : NV) (n : PN) (w : World) (h : NodeAt K w x n) (hq : NR n = false) (hd : ∀ r, (r = n.c \/ r ∈ n.ks) -> r.i.length < 32 -> DDSaid r.i) :
  Calls Tryz.prog 65 #[.agg x.cells.toArray] w (EEPost w n) := by
 have B := Zcw w x h.c.len
 have HB := Hid.mk (below_new w (.cells x.cells.toArray 104))
 have HR1 := Hid.mk (show ∀ v, Below w.heap.size w v -> Calls Tryz.prog 76 #[.agg x.cells.toArray] v fun e w' => e = .returned (.bool false) /\ Below v.heap.size v w' from fun v hv => by
  rw [<- hq]; exact Zfp K x n v (h.go (Keep.below hv)) hd)
 unfold EEPost
 rw [hq]
 clear h hq hd
 go_enter Tryz.func65, Tryz.ntmps65
 go_upto_region 1 with fail
 refine gen_w (p := fun v => Code.wp _ _ _ _ v) (q := fun v => NBx w.heap.size v x /\ Below w.heap.size w v) ⟨B, HB.out⟩ ?_
 clear B HB
 rintro v ⟨B, hb⟩
 have HB := Hid.mk hb
 have HX := Hid.mk B
 clear hb B
 go_wp2_with (first | refine Za8 rfl _ rfl w.heap.size rfl x HX.out ?_)
 refine (HR1.out v HB.out).mono ?_
 rintro e w1 ⟨rfl, hb1⟩
 have HB1 := Hid.mk (below_go HB.out hb1)
 clear hb1 HX HB
 go_wp2_with fail
 go_ret2
 exact ⟨⟨none, 0, 0, rfl, ⟨.inl ⟨rfl, rfl⟩, fun _ => ⟨rfl, rfl⟩, rfl, fun x hx => by cases hx⟩, fun g off h => by cases h⟩, HB1.out⟩
theorem Zer (K : Nat -> Prop) (x : NV) (n : PN) (w : World) (h : NodeAt K w x n) (hd : ∀ r, (r = n.c \/ r ∈ n.ks) -> r.i.length < 32 -> DDSaid r.i) :
  Calls Tryz.prog 65 #[.agg x.cells.toArray] w (EEPost w n) := by
 cases hq : NR n with
 | false => exact Zrx K x n w h hq hd
 | true => exact Zry K x n w h (Zny hq) hd
def drefP (t : T) : PR := if t.l = true then ⟨1, z32, (encP t).1⟩ else if t.bs.length = 32 then ⟨2, t.bs, []⟩ else r0
def DRPost (w : World) (r : PR) : Ending -> World -> Prop := fun e w' => (∃ y : RV, e = .returned (.agg y.cells.toArray) /\ RefAt (fun g => w.heap.size < g) w' y r) /\ Below w.heap.size w w'
theorem Zyg {bs : List Int} {j : Nat} (hl : bs.length = 32) (hj : j < 32) : (bs.take j ++ List.replicate (32 - j) 0).set j (bs.getD j 0) = bs.take (j + 1) ++ List.replicate (32 - (j + 1)) 0 := by
 have ht : (bs.take j).length = j := by rw [List.length_take]; omega
 rw [List.set_append_right _ _ (by omega), ht, Nat.sub_self, show 32 - j = (32 - (j + 1)) + 1 from by omega, List.replicate_succ, List.set_cons_zero, List.take_add_one, List.getElem?_eq_getElem (by omega), List.append_assoc]
 simp [List.getD, List.getElem?_eq_getElem (show j < bs.length by omega)]
theorem Ztm {k : Int} {d : List Int} {a : Option Addr} {n c j : Nat} {b : Int} (hj : j < d.length) : (RV.cells ⟨k, d, a, n, c⟩).toArray.setIfInBounds (1 + j) (.int .u8 b) = (RV.cells ⟨k, d.set j b, a, n, c⟩).toArray := by
 rw [List.setIfInBounds_toArray]
 congr 1
 rw [RV.cells, RV.cells, Nat.add_comm 1 j, List.set_cons_succ, List.set_append_left _ _ (by simpa using hj), List.map_set]
set_option maxHeartbeats 4000000 in
theorem Zks (t : T) (x : V) (w : World) (h : Lies w t x) :
  Calls Tryz.prog 116 #[.agg #[.bool x.l, .slice x.ba x.bn x.bc, .slice x.ia x.m x.ic]] w (DRPost w (drefP t)) := by
 obtain ⟨l, bs, its⟩ := t
 obtain ⟨hl, hag, -⟩ := lies_eq.1 h
 have hbn : x.bn <= 140737488351232 := (lies_eq.1 h).2.2.2.2.2.1.1
 subst hl
 have HX := Hid.mk h
 have HAG := Hid.mk hag
 obtain ⟨res, hres⟩ : ∃ res, drefP (.mk x.l bs its) = res := ⟨_, rfl⟩
 rw [hres]
 have hres : (if x.l = true then (⟨1, z32, (encP (.mk x.l bs its)).1⟩ : PR) else if bs.length = 32 then ⟨2, bs, []⟩ else r0) = res := hres
 rw [hag.l] at hres
 have HRES := Hid.mk hres
 have HRR := Hid.mk (Zv9 w x)
 clear h hag hres
 go_enter Tryz.func116, Tryz.ntmps116
 go_upto_region 1 with fail
 refine gen_w (p := fun v => Code.wp _ _ _ _ v) (q := fun v => Rr w v x) HRR.out ?_
 clear HRR
 intro v RR
 have c0 := RR.bx.c0
 have c1 := RR.bx.c1
 have c2 := RR.bx.c2
 have HRR := Hid.mk RR
 clear RR
 by_cases hxl : x.l = true
 ·have hE := Zh6 (.mk x.l bs its) x v (Zaw HRR.out.bel _ x HX.out)
  have hres := HRES.out
  rw [if_pos hxl] at hres
  have HF := Hid.mk (show (encP (.mk x.l bs its)).1.length <= 16777220 from by
   by_cases hm : (mP (.mk x.l bs its)).2 = 0
   ·rw [Zex hm]; exact Zwt hm
   ·rw [Zns hm]; simp)
  obtain ⟨en, hen⟩ : ∃ en, (encP (.mk x.l bs its)).1 = en := ⟨_, rfl⟩
  rw [hen] at hE HF hres
  subst hres
  obtain ⟨er, her⟩ : ∃ er, (encP (.mk x.l bs its)).2 = er := ⟨_, rfl⟩
  rw [her] at hE
  clear hen her
  rw [hxl] at c0 hE
  have HE2 := Hid.mk hE
  clear hE HRES
  go_wp2_with fail
  refine HE2.out.mono ?_
  rintro e w1 ⟨⟨a, n, c, rfl, hag, hnw⟩, hb⟩
  have R1 := HRR.out.go hb
  have HAGK := Hid.mk (show AgK (fun g => w.heap.size + 2 <= g) w1 a n c en from ⟨hag, by have := hag.l; have := HF.out; omega, fun g off e _ => by have := hnw (by first | exact trivial | rfl) g off e; have := HRR.out.sz; omega⟩)
  have HR1 := Hid.mk R1
  have hl32 : z32.length = 32 := rfl
  clear hag hb R1 hnw
  go_wp2_with (first | refine wpList_store_row rfl 60 _ _ rfl _ (RV.cells ⟨1, z32, a, n, c⟩).toArray rfl rfl 60 _ HR1.out.row (Zb1 rfl) (Zbr rfl) (all_oneCell_toArray (RV.one _)) ?_)
  refine bodyPost_ret (results_cell_row Tryz.results116 _ _ (w.heap.size + 1) 60 _ (0, 0) _ rfl (setRow_heap _ _ _ _ _ _ HR1.out.row) Tryz.underlying60 rfl (Zb1 (y := ⟨1, z32, a, n, c⟩) rfl)) rfl ?_
  exact ⟨⟨⟨1, z32, a, n, c⟩, rfl, rfl, rfl, Ziw, rfl, HAGK.out.go (fun g hK _ => ⟨setRow_other _ _ _ _ (by omega), by omega⟩)⟩, Below.setRow HR1.out.bel (by omega) _⟩
 ·have hres := HRES.out
  rw [if_neg hxl] at hres
  have hxf : x.l = false := by simpa using hxl
  rw [hxf] at c0
  clear hxf hxl HRES HX
  by_cases h32 : x.bn = 32
  ·rw [if_pos h32] at hres
   subst hres
   have hz := HAG.out
   rw [h32] at hz c1
   obtain ⟨g, off, hba, hnc, hcm, hcs⟩ := ag_head hz (by omega)
   unfold maxLen at hcm
   rw [hba] at c1
   have HBL := Hid.mk hz.l
   have HBB := Hid.mk hz.b
   have HCS := Hid.mk (show ∀ u, Below w.heap.size w u -> ∀ j, j < 32 -> u.cell? ⟨g, off + j, none⟩ = some (.int .u8 (bs.getD j 0)) from fun u hu j hj => Zae hu (hcs j hj))
   have HRB := Hid.mk hba
   have HR32 := Hid.mk h32
   have HVS := Hid.mk HRR.out.sz
   clear hz hcs h32 hba
   go_upto_region 6 with (first | refine wpList_store_row rfl 60 _ _ rfl _ (RV.cells ⟨2, z32, none, 0, 0⟩).toArray rfl rfl 60 _ (heap_alloc_new _ _) (Zb1 rfl) (Zbr rfl) (all_oneCell_toArray (RV.one _)) ?_)
   obtain ⟨gB, hgB⟩ : ∃ gB, v.heap.size = gB := ⟨_, rfl⟩
   refine gen_w (p := fun v => Code.wp _ _ _ _ v) (q := fun u => RBx gB u ⟨2, z32, none, 0, 0⟩ /\ Rr w u x) ⟨⟨by rw [<- hgB]; exact setRow_heap _ _ _ _ _ _ (heap_alloc_new _ _), rfl⟩, HRR.out.go (Below.setRow (below_new v _) (Nat.le_refl _) _)⟩ ?_
   rintro u0 ⟨B2, R2⟩
   rw [hgB] at HVS ⊢
   have HB0 := Hid.mk B2
   have HR0 := Hid.mk R2
   clear B2 R2 hgB c0 c1 c2 HRR
   go_wp2_with fail
   go_loopw [6] (fun s6 u => ∃ j : Nat, j <= 32 /\ s6 = .int .i64 j /\ RBx gB u ⟨2, bs.take j ++ List.replicate (32 - j) 0, none, 0, 0⟩ /\ Rr w u x) (fun s6 _ => 32 - (intOf s6).toNat)
   case atStart => exact ⟨0, by omega, rfl, HB0.out, HR0.out⟩
   case round =>
    obtain ⟨j, hj, rfl, hB, hR⟩ := hrel
    have HB := Hid.mk hB
    have HR := Hid.mk hR
    clear hB hR HB0 HR0
    by_cases hlt : j < 32
    ·have hji : (j : Int) < 32 := by omega
     have d1 := HR.out.bx.c1
     rw [HRB.out, HR32.out] at d1
     have hc := HCS.out _ HR.out.bel j hlt
     have hf := HB.out.fz
     obtain ⟨old, hold⟩ : ∃ old, wr.cell? ⟨gB, 1 + j, none⟩ = some old := by
      rw [HB.out.at]
      exact ⟨_, List.getElem?_eq_getElem (by rw [RV.len HB.out.l]; omega)⟩
     have HPUT := Hid.mk (show RBx gB (wr.setCell ⟨gB, 1 + j, none⟩ (.int .u8 (bs.getD j 0))) ⟨2, bs.take (j + 1) ++ List.replicate (32 - (j + 1)) 0, none, 0, 0⟩ from by
      have hll := HB.out.l
      have e := heap_setCell_same wr gB (1 + j) _ 60 (.int .u8 (bs.getD j 0)) HB.out.row
      rw [Ztm (d := bs.take j ++ List.replicate (32 - j) 0) (Nat.lt_of_lt_of_eq hlt hll.symm), Zyg HBL.out hlt] at e
      exact ⟨e, by show (bs.take (j + 1) ++ List.replicate (32 - (j + 1)) 0).length = 32; rw [List.length_append, List.length_take, List.length_replicate, HBL.out]; omega⟩)
     have HRP := Hid.mk (show Rr w (wr.setCell ⟨gB, 1 + j, none⟩ (.int .u8 (bs.getD j 0))) x from by
      have hv := HVS.out
      have ho : ∀ k, k ≠ gB -> (wr.setCell ⟨gB, 1 + j, none⟩ (.int .u8 (bs.getD j 0))).heap[k]? = wr.heap[k]? := fun k hk => heap_setCell_other _ _ _ _ hk
      have hcl : ∀ o, (wr.setCell ⟨gB, 1 + j, none⟩ (.int .u8 (bs.getD j 0))).cell? ⟨w.heap.size, o, none⟩ = wr.cell? ⟨w.heap.size, o, none⟩ := fun o => World.cell?_of_block (ho w.heap.size (by omega))
      exact ⟨(ho _ (by omega)).trans HR.out.row, ⟨(hcl _).trans HR.out.bx.c0, (hcl _).trans HR.out.bx.c1, (hcl _).trans HR.out.bx.c2⟩, HR.out.bel.setCell (by show w.heap.size <= gB; omega) _, by simpa using HR.out.sz⟩)
     have hjl : j < bs.length := by have := HBL.out; omega
     have hbb := HBB.out (bs.getD j 0) (by simp [List.getD, List.getElem?_eq_getElem hjl])
     clear hjl
     generalize bs.getD j 0 = bj at hc HPUT HRP hbb
     go_wp2_with fail
     exact ⟨⟨j + 1, by omega, by simp, HPUT.out, HRP.out⟩, by simp [intOf]; omega⟩
    ·have hji : ¬ (j : Int) < 32 := by omega
     have hB := HB.out
     have hj32 : j = 32 := by omega
     subst hj32
     rw [show bs.take 32 ++ List.replicate (32 - 32) 0 = bs from by rw [List.take_of_length_le (by rw [HBL.out]; omega)]; simp] at hB
     have HB3 := Hid.mk hB
     clear hB HB
     go_wp2_with (first | refine Za4 rfl _ rfl gB 0 rfl ⟨2, bs, none, 0, 0⟩ HBL.out HB3.out.all ?_ | refine wpList_store_row rfl 60 _ _ rfl _ (RV.cells ⟨2, bs, none, 0, 0⟩).toArray rfl rfl 60 _ HR.out.row (Zb1 HBL.out) (Zbr HBL.out) (all_oneCell_toArray (RV.one _)) ?_)
     refine bodyPost_ret (results_cell_row Tryz.results116 _ _ (w.heap.size + 1) 60 _ (0, 0) _ rfl (setRow_heap _ _ _ _ _ _ HR.out.row) Tryz.underlying60 rfl (Zb1 (y := ⟨2, bs, none, 0, 0⟩) HBL.out)) rfl ?_
     exact ⟨⟨⟨2, bs, none, 0, 0⟩, rfl, rfl, rfl, HBB.out, HBL.out, Zd7 _ _⟩, Below.setRow HR.out.bel (by omega) _⟩
  ·rw [if_neg h32] at hres
   subst hres
   have h32i : ¬ (x.bn : Int) = 32 := by omega
   go_wp2_with (first | refine wpList_store_row rfl 60 _ _ rfl _ rz.cells.toArray rfl rfl 60 _ HRR.out.row (Zb1 rfl) (Zbr rfl) (all_oneCell_toArray (RV.one _)) ?_)
   refine bodyPost_ret (results_cell_row Tryz.results116 _ _ (w.heap.size + 1) 60 _ (0, 0) _ rfl (setRow_heap _ _ _ _ _ _ HRR.out.row) Tryz.underlying60 rfl (Zb1 (y := rz) rfl)) rfl ?_
   exact ⟨⟨rz, rfl, Zc1 _ _⟩, Below.setRow HRR.out.bel (by omega) _⟩
theorem Zjl (w : World) (r : RV) (hl : r.d.length = 32) : (Instr.buildSlice 102 1 #[(0, .agg r.cells.toArray)]).run Tryz.prog w = .ok (.slice (some ⟨w.heap.size, 0, none⟩) 1 1) (w.alloc (.cells r.cells.toArray 60)) := by
 obtain ⟨i, hi, hz, hsz, hby⟩ := Zsw
 refine run_buildSlice w 102 60 1 _ r.cells.toArray i _ Tryz.underlying102 hi hz (by rw [hsz]; omega) (by rw [hsz]; omega) ?_
 rw [hsz]
 have h := Great.fill_whole (s := 34) (by omega) [.agg r.cells.toArray] ((Array.range (1 * 34)).map ((Value.agg rz.cells.toArray).cells[· % (Value.agg rz.cells.toArray).cells.size]!)) (fun v hv => by
  simp only [List.mem_cons, List.not_mem_nil, or_false] at hv
  subst hv
  show r.cells.toArray.size = 34
  rw [List.size_toArray, RV.len hl]) (by simp)
 refine h.trans ?_
 simp [Value.cells]
theorem Zib {a : Act} {w : World} {x : Operand} {o : Oper} (ho : o.op = .buildSlice 102 1 #[(0, x)]) (r : RV) (hl : r.d.length = 32) (hx : a.eval x = .agg r.cells.toArray) :
  (execOp a.eval o).run Tryz.prog w = .ok (.value (.slice (some ⟨w.heap.size, 0, none⟩) 1 1)) (w.alloc (.cells r.cells.toArray 60)) := by
 unfold execOp
 rw [ho]
 simp only [List.map_toArray, List.map_cons, List.map_nil, hx, Sem.run_bind, Zjl w r hl, Result.andThen_ok, Sem.run_pure]
theorem Zrw {a : Act} {w w' : World} {s x : Operand} {o : Oper} (ho : o.op = .call { callee := .builtin .append, args := #[s, x], argTypes := #[102, 102] }) (v u : Value) (hd : a.eval s = v) (hx : a.eval x = u) {v' : Value}
  (hr : (Builtin.append_ #[102, 102] o.type #[v, u]).run Tryz.prog w = .ok v' w') : (execOp a.eval o).run Tryz.prog w = .ok (.value v') w' := by
 simp [execOp, ho, resolve, invoke, builtin, hd, hx, hr, Result.andThen]
section
variable {w : World} {ops : Array Oper} {rest : List Oper} {o : Oper} {a : Act} {Q : Exit → Act → World → Prop}
end
end Go.Proofs.YtdkpilgelgjieaaGreat
namespace Go.Proofs.YtdkpilgelgjieaaGreat
open Go.RowKit
open Ni (unpP)
def OwnR (w : World) (base : Nat) (v : Value) (ys : List RV) : Prop := w.ownsRow base 60 34 v ys.length (flatR ys)
theorem Znh {w : World} {base : Nat} {v : Value} {ys : List RV} (h : OwnR w base v ys) {g : Nat} (hg : v.ownBlock = some g) : base <= g /\ g < w.heap.size := by
 rcases h.2 with ⟨rfl, _⟩ | ⟨g', cap, cur, rfl, hbg, hh, _⟩
 ·cases hg
 ·cases hg
  exact ⟨hbg, lt_of_get hh⟩
theorem Zl6 {w w' : World} {base : Nat} {v : Value} {ys : List RV} (h : OwnR w base v ys) (hk : ∀ g, v.ownBlock = some g -> g < w.heap.size -> w'.heap[g]? = w.heap[g]?) : OwnR w' base v ys := by
 refine ⟨h.1, ?_⟩
 rcases h.2 with h2 | ⟨g, cap, cur, hv, hb, hh, r⟩
 ·exact .inl h2
 ·exact .inr ⟨g, cap, cur, hv, hb, (hk g (by rw [hv]; rfl) (lt_of_get hh)).trans hh, r⟩
theorem Zys {w : World} {base : Nat} {v : Value} {ys : List RV} (hl : ∀ y ∈ ys, y.d.length = 32) (hown : OwnR w base v ys) (y : RV) (hy : y.d.length = 32) (ad : Addr) (c : Nat) (hnews : ∀ j u, (RV.cells y)[j]? = some u -> w.cell? (ad.add j) = some u) (hbase : base <= w.heap.size) (hlen : ys.length <= 2199023255550) (ty : TypeId) :
  ∃ v' w', (Builtin.append_ #[102, 102] ty #[v, .slice (some ad) 1 c]).run Tryz.prog w = .ok v' w' /\ OwnR w' base v' (ys ++ [y]) /\ w.grownBy w' v.ownBlock /\ (v'.ownBlock = v.ownBlock \/ v'.ownBlock = some w.heap.size) := by
 obtain ⟨i, hi, hz, hsz, hby⟩ := Zsw
 have hc34 := RV.len hy
 obtain ⟨v', w', hrun, hown', hgr, _⟩ := run_append_own (P := Tryz.prog) w base 102 ty 60 i _ 34 64 Tryz.underlying102 hi hz hsz hby rfl (by decide) v ys.length (flatR ys) hown ad 1 c (RV.cells y) (by rw [hc34]) hnews y.one (by unfold maxLen; omega) (by omega) hbase
 refine ⟨v', w', hrun, ?_, hgr, ?_⟩
 ·unfold OwnR
  rw [Zei, Ziz, List.length_append]
  exact hown'
 ·rcases hown.2 with ⟨rfl, hn0⟩ | ⟨g, cap, cur, rfl, hbg, hg, hnc, hcm, hcs, htake⟩
  ·have hr := run_append_nil (P := Tryz.prog) w 102 ty 60 i _ Tryz.underlying102 hi hz ad 1 c (RV.cells y) (by rw [hsz, hc34]) hnews (by decide) (by decide) (by rw [hby]; decide)
   rw [hrun] at hr
   injection hr with e1 e2
   right
   rw [e1]
   rfl
  ·by_cases hroom : ys.length + 1 <= cap
   ·have hr := run_append_room (P := Tryz.prog) w 102 ty 60 i Tryz.underlying102 hi g ys.length cap cur hg ad 1 c (RV.cells y) (by rw [hsz, hc34]) hnews y.one hroom (by rw [hcs, hsz, hc34]; omega)
    rw [hrun] at hr
    injection hr with e1 e2
    left
    rw [e1]
    rfl
   ·have hr := run_append_grow (P := Tryz.prog) w 102 ty 60 i _ Tryz.underlying102 hi hz ⟨g, 0, none⟩ ys.length cap (flatR ys) (by rw [hsz, Zdu hl]) (World.ownsRow.cells hown (g := g) rfl) ad 1 c (RV.cells y) (by rw [hsz, hc34]) hnews (by omega) (by omega) (growslice_fits (by omega) (by rw [hby]; omega))
    rw [hrun] at hr
    injection hr with e1 e2
    right
    rw [e1]
    rfl
def SoR (base : Nat) (v : World) (it : Value) (rs : List PR) : Prop := ∃ ys : List RV, OwnR v base it ys /\ RefsAt (fun b => base <= b /\ it.ownBlock ≠ some b) v ys rs
theorem Zri (base : Nat) (v : World) : SoR base v (.slice none 0 0) [] := ⟨[], World.ownsRow_nil _ _ _ _, rfl, (fun y hy => by cases hy), fun i y r h => by simp at h⟩
theorem SoR.keep {base : Nat} {v v' : World} {it : Value} {rs : List PR} (h : SoR base v it rs) (hb : ∀ b, base <= b -> b < v.heap.size -> v'.heap[b]? = v.heap[b]?) : SoR base v' it rs := by
 obtain ⟨ys, h1, h2⟩ := h
 exact ⟨ys, Zl6 h1 fun g hg hlt => hb g (Znh h1 hg).1 hlt, h2.go fun b hb' hlt => ⟨hb b hb'.1 hlt, hb'⟩⟩
theorem SoR.all {base : Nat} {v v' : World} {it : Value} {rs : List PR} (h : SoR base v it rs) (hb : Below v.heap.size v v') : SoR base v' it rs := h.keep fun b _ hlt => hb.block b hlt
theorem Ze7 {base : Nat} {wr w1 : World} {it : Value} {rs : List PR} {y : RV} {r : PR} (hz : base <= wr.heap.size) (h : SoR base wr it rs) (hb1 : Below wr.heap.size wr w1) (hy : RefAt (fun b => wr.heap.size <= b) w1 y r) (hlen : rs.length <= 2199023255550) (ty : TypeId) :
  ∃ v' w3, (Builtin.append_ #[102, 102] ty #[it, .slice (some ⟨w1.heap.size, 0, none⟩) 1 1]).run Tryz.prog (w1.alloc (.cells y.cells.toArray 60)) = .ok v' w3 /\ SoR base w3 v' (rs ++ [r]) /\ Below base wr w3 := by
 obtain ⟨ys, hown, hall⟩ := h
 obtain ⟨Y, hY⟩ : ∃ Y : Obj, Obj.cells y.cells.toArray 60 = Y := ⟨_, rfl⟩
 rw [hY]
 have hs2 : (w1.alloc Y).heap.size = w1.heap.size + 1 := by simp
 have hb2 : Below wr.heap.size wr (w1.alloc Y) := hb1.alloc hb1.size _
 have hz1 := hb1.size
 have hblk : (w1.alloc Y).heap[w1.heap.size]? = some Y := heap_alloc_new w1 Y
 have hnews : ∀ j u, (RV.cells y)[j]? = some u -> (w1.alloc Y).cell? ((⟨w1.heap.size, 0, none⟩ : Addr).add j) = some u := by
  intro j u hu
  rw [Zax, Nat.zero_add]
  rw [<- hY] at hblk ⊢
  rw [cell_of_row _ _ _ _ _ _ hblk]
  simpa using hu
 obtain ⟨v', w3, hrun, hown3, hgr, hown4⟩ := Zys hall.2.1 (Zl6 hown fun g _ hg => hb2.block g hg) y hy.len _ 1 hnews (by omega) (by rw [<- hall.1]; exact hlen) ty
 have hfar : ∀ b, b < w1.heap.size + 1 -> it.ownBlock ≠ some b -> w3.heap[b]? = (w1.alloc Y).heap[b]? := fun b hb hne => hgr.block b (by rw [hs2]; exact hb) (fun h => hne h.symm)
 have hit : ∀ g, it.ownBlock = some g -> g < wr.heap.size := fun g hg => (Znh hown hg).2
 have hv' : ∀ b, b < w1.heap.size -> it.ownBlock ≠ some b -> v'.ownBlock ≠ some b := fun b hb hne h => by
  rcases hown4 with h4 | h4
  ·exact hne (h4.symm.trans h)
  ·rw [h4, hs2] at h; cases h; omega
 refine ⟨v', w3, hrun, ⟨_, hown3, RefsAt.snoc (hall.go fun b hb hlt => ⟨?_, hb.1, hv' b (by omega) hb.2⟩) (hy.go fun b hb hlt => ⟨?_, by omega, ?_⟩)⟩, ?_⟩
 ·rw [hfar b (by omega) hb.2]
  exact hb2.block b hlt
 ·have hne : it.ownBlock ≠ some b := fun h => by have := hit b h; omega
  rw [hfar b (by omega) hne, Below.heap_alloc _ _ _ hlt]
 ·refine ⟨hgr.os.trans hb2.os, hgr.tape.trans hb2.tape, hgr.output.trans hb2.output, Nat.le_trans hb2.size hgr.size, fun b hb => ?_⟩
  rw [hfar b (by omega) (fun h => by have := (Znh hown h).1; omega)]
  exact hb2.block b (by omega)
 ·exact hv' b hlt (fun h => by have := hit b h; omega)
theorem SoR.kids {base : Nat} {v : World} {it : Value} {rs : List PR} (h : SoR base v it rs) : ∃ ka kc, it = .slice ka rs.length kc /\ rs.length <= kc /\ kc <= maxLen /\ (ka = none -> rs.length = 0 /\ kc = 0) /\ KidsAt (fun b => base <= b) v ka rs := by
 obtain ⟨ys, hown, hall⟩ := h
 have hl := hall.1
 rcases hown.2 with ⟨rfl, hn0⟩ | ⟨g, cap, cur, rfl, hbg, hg, hnc, hcm, hcs, htake⟩
 ·have : rs = [] := List.eq_nil_of_length_eq_zero (by omega)
  subst this
  exact ⟨none, 0, rfl, Nat.le_refl _, by unfold maxLen; omega, fun _ => ⟨rfl, rfl⟩, fun j r hr => by simp at hr⟩
 ·refine ⟨some ⟨g, 0, none⟩, cap, by rw [hl], by omega, hcm, fun h => (by cases h), fun j r hj => ?_⟩
  have hjl : j < ys.length := by rw [<- hl]; exact (List.getElem?_eq_some_iff.1 hj).1
  refine ⟨g, 0, ys[j], rfl, hbg, fun k u hu => ?_, (hall.2.2 j _ r (List.getElem?_eq_getElem hjl) hj).go fun b hb _ => ⟨rfl, hb.1⟩⟩
  have e : ys = ys.take j ++ ys[j] :: ys.drop (j + 1) := by rw [<- List.drop_eq_getElem_cons hjl, List.take_append_drop]
  have hl' : (ys.take j).length = j := by rw [List.length_take]; omega
  have hf := Zs4 (pre := ys.take j) (post := ys.drop (j + 1)) (fun z hz => hall.2.1 z (List.mem_of_mem_take hz)) hu
  rw [hl', <- e] at hf
  have := World.ownsRow.cells hown (g := g) rfl (j * 34 + k) u hf
  rw [Zax] at this
  rw [show 0 + j * 34 + k = 0 + (j * 34 + k) from by omega]
  exact this
def ddNode (t : T) : PN :=
 if t.its.length = 2 then
  (if (unpP (t.its.getD 0 t0).bs).2.1 = true then ⟨1, (unpP (t.its.getD 0 t0).bs).1, (t.its.getD 1 t0).bs, r0, []⟩
   else ⟨2, (unpP (t.its.getD 0 t0).bs).1, [], drefP (t.its.getD 1 t0), []⟩)
 else ⟨3, [], (t.its.getD 16 t0).bs, r0, (t.its.take 16).map drefP⟩
theorem Zth {u : T} {r : PR} (h : refOfP u = some r) : r = drefP u := by
 unfold refOfP at h
 unfold drefP
 by_cases hl : u.l = true
 ·rw [if_pos hl] at h ⊢
  by_cases hm : (mP u).2 = 0
  ·rw [if_pos hm] at h; cases h; rw [Zex hm]
  ·rw [if_neg hm] at h; cases h
 ·rw [if_neg hl] at h ⊢
  by_cases h0 : u.bs.length = 0
  ·rw [if_pos h0] at h; cases h; rw [if_neg (by omega)]
  ·rw [if_neg h0] at h
   by_cases h32 : u.bs.length = 32
   ·rw [if_pos h32] at h ⊢; cases h; rfl
   ·rw [if_neg h32] at h; cases h
theorem Zss : ∀ {ts : List T} {ks : List PR}, kidsP ts = some ks -> ks = ts.map drefP
 | [], ks, h => by cases h; rfl
 | t :: l, ks, h => by
  rw [kidsP] at h
  cases hr : refOfP t with
  | none => rw [hr] at h; cases h
  | some a =>
   rw [hr] at h
   dsimp only at h
   cases hk : kidsP l with
   | none => rw [hk] at h; cases h
   | some l' =>
    rw [hk] at h
    cases h
    rw [List.map_cons, <- Zss hk, <- Zth hr]
theorem Zmo {t : T} {n : PN} (h : nodeOfP t = some n) : n = ddNode t /\ (t.its.length = 2 \/ t.its.length = 17) := by
 unfold nodeOfP at h
 unfold ddNode
 by_cases h2 : t.its.length = 2
 ·rw [if_pos h2] at h ⊢
  refine ⟨?_, .inl h2⟩
  unfold pathP at h
  split at h
  ·cases h
  ·split at h
   ·rename_i hlf
    rw [if_pos hlf]
    split at h
    ·cases h
    ·cases h; rfl
   ·rename_i hlf
    rw [if_neg hlf]
    cases hq : refOfP (t.its.getD 1 t0) with
    | none => rw [hq] at h; cases h
    | some c => rw [hq] at h; cases h; rw [<- Zth hq]
 ·rw [if_neg h2] at h ⊢
  by_cases h17 : t.its.length = 17
  ·rw [if_pos h17] at h
   refine ⟨?_, .inr h17⟩
   unfold branchP at h
   cases hk : kidsP (t.its.take 16) with
   | none => rw [hk] at h; cases h
   | some ks =>
    rw [hk] at h
    dsimp only at h
    split at h
    ·cases h
    ·cases h; rw [<- Zss hk]
  ·rw [if_neg h17] at h; cases h
theorem Zz5 {b : List Int} {e : Nat} (hb : isB b) (hd : decP b = .bad e) : ND b = none := by rw [Zvw hb, hd]
theorem dd_no {b : List Int} {t : T} (hb : isB b) (hd : decP b = .ok t) (h : ¬ (t.its.length = 2 \/ t.its.length = 17)) : ND b = none := by
 cases hn : ND b with
 | none => rfl
 | some n =>
  obtain ⟨t', h1, h2, _⟩ := Zen hb hn
  rw [hd] at h1
  cases h1
  exact absurd (Zmo h2).2 h
theorem Zti {b : List Int} {t : T} (hb : isB b) (hd : decP b = .ok t) (ho : okN (ddNode t)) : ND b = if NR (ddNode t) = true /\ NE (ddNode t) = b then some (ddNode t) else none := by
 by_cases h : NR (ddNode t) = true /\ NE (ddNode t) = b
 ·rw [if_pos h]
  have := Z0c ho h.1 (by rw [h.2]; exact hb)
  rwa [h.2] at this
 ·rw [if_neg h]
  cases hn : ND b with
  | none => rfl
  | some n =>
   obtain ⟨t', h1, h2, _⟩ := Zen hb hn
   rw [hd] at h1
   cases h1
   obtain ⟨h3, h4, _⟩ := Zl8 hb hn
   rw [(Zmo h2).1] at h3 h4
   exact absurd ⟨h3, h4⟩ h
theorem Zj8 {b : List Int} {t u : T} (hb : isB b) (h : decP b = .ok t) (hu : u ∈ t.its) : (drefP u).i.length < b.length := by
 have hs := (Zh1 hb h hu).1
 unfold drefP
 split
 ·by_cases hm : (mP u).2 = 0
  ·rw [Zex hm]; exact hs
  ·rw [Zns hm]; simp; omega
 ·split
  ·simp; omega
  ·show (0 : Nat) < _; omega
theorem Ztj {b : List Int} {t : T} (hb : isB b) (h : decP b = .ok t) (hl : t.its.length = 2 \/ t.its.length = 17) : ∀ r, (r = (ddNode t).c \/ r ∈ (ddNode t).ks) -> r.i.length < b.length := by
 have h0 : r0.i.length < b.length := by have := (Zh1 hb h (Zdt (l := t.its) (i := 0) (by omega))).1; show 0 < _; omega
 intro r hr
 unfold ddNode at hr
 by_cases h2 : t.its.length = 2
 ·rw [if_pos h2] at hr
  split at hr
  ·rcases hr with rfl | hr
   ·exact h0
   ·cases hr
  ·rcases hr with rfl | hr
   ·exact Zj8 hb h (Zdt (by omega))
   ·cases hr
 ·rw [if_neg h2] at hr
  rcases hr with rfl | hr
  ·exact h0
  ·obtain ⟨u, hu, rfl⟩ := List.mem_map.1 hr
   exact Zj8 hb h (List.mem_of_mem_take hu)
end Go.Proofs.YtdkpilgelgjieaaGreat

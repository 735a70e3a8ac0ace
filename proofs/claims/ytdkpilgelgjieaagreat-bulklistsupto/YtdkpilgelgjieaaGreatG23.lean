/- What Refer answers of fewer than 32 bytes. -/
import Derived.Test.YtdkpilgelgjieaaGreatG15
import Derived.Test.YtdkpilgelgjieaaGreatG14
import Derived.Test.YtdkpilgelgjieaaGreatG19
import Derived.Test.YtdkpilgelgjieaaGreatG22
import Derived.Maps.AppendAt
set_option linter.unusedVariables false
set_option maxRecDepth 100000
namespace Go.Proofs.YtdkpilgelgjieaaGreat
open Go.RowKit
theorem Zh5 {fn : Func} {p : Tmp} (h : fn.results = #[.cell p 60]) (tmps : Array Value) (w : World) (g : Nat) (y : RV) (hl : y.d.length = 32) (hp : tmps.getD p undef = .pointer (some ⟨g, 0, none⟩)) (hg : w.heap[g]? = some (.cells y.cells.toArray 60)) :
  (results fn tmps).run Tryz.prog w = .ok (.agg y.cells.toArray) w :=
 results_cell_row h tmps w g 60 y.cells.toArray (0, 0) _ hp hg Tryz.underlying60 rfl (Zb1 hl)
set_option maxHeartbeats 4000000 in
theorem Znd (a : Option Addr) (n c : Nat) (b : List Int) (w : World) (h : Ag w a n c b) (hn : n < 32) :
  Calls Tryz.prog 52 #[.slice a n c] w fun e w' => (∃ y : RV, e = .returned (.agg y.cells.toArray) /\ RefAt (Own w.heap.size w') w' y ⟨1, z32, b⟩) /\ Below w.heap.size w w' := by
 have hmk := run_make_row' (P := Tryz.prog) 32 5 (.int .u8 0) 1 Tryz.underlying32 info5b rfl .i64 .i64 n (by omega) (by omega)
 obtain ⟨w0, hw0⟩ : ∃ w0, w.alloc (.cells rz.cells.toArray 60) = w0 := ⟨_, rfl⟩
 have hs0 : w0.heap.size = w.heap.size + 1 := by rw [<- hw0]; simp
 have hbw0 : Below w.heap.size w w0 := by rw [<- hw0]; exact below_new _ _
 have hres : w0.heap[w.heap.size]? = some (.cells rz.cells.toArray 60) := by rw [<- hw0]; exact heap_alloc_new _ _
 have hrow : Row w0.heap.size (w0.alloc (.cells (madeCells #[.int .u8 0] n) 5)) (List.replicate n 0) := by
  unfold Row; rw [heap_alloc_new, made_bytes]
 have hbw : Below w.heap.size w (w0.alloc (.cells (madeCells #[.int .u8 0] n) 5)) := hbw0.alloc (by omega) _
 obtain ⟨w1, hrun, hrow1, ht⟩ := Zlb (o := 0) (dl := n) (dc := n) (da := some ⟨w0.heap.size, 0, none⟩) hrow (h.at hbw) rfl (by simp) (fun _ => rfl)
 rw [List.take_zero, List.nil_append, Nat.zero_add, List.drop_of_length_le (by simp), List.append_nil] at hrow1
 have hres1 : w1.heap[w.heap.size]? = some (.cells rz.cells.toArray 60) := (ht.block _ (by simp; omega) (by omega)).trans ((Below.heap_alloc _ _ _ (by omega)).trans hres)
 have hb1 := Touch.below hbw ht (by omega) hbw.size
 have HRUN := Hid.mk hrun
 have HROW := Hid.mk hrow1
 have HB := Hid.mk hb1
 have HRES := Hid.mk hres1
 have HD0 := Hid.mk hbw0
 have HS0 := Hid.mk hs0
 have HLB := Hid.mk h.l
 have HBB := Hid.mk h.b
 have h32 : ¬ (n : Int) ≥ 32 := by omega
 clear hrow hrun hrow1 ht hbw h hbw0 hres hres1 hb1 hs0
 go_enter Tryz.func52, Tryz.ntmps52
 go_upto_region 1 with fail
 rw [show (w.alloc (.cells #[.int .i64 0, .int .u8 0, .int .u8 0, .int .u8 0, .int .u8 0, .int .u8 0, .int .u8 0, .int .u8 0, .int .u8 0, .int .u8 0, .int .u8 0, .int .u8 0, .int .u8 0, .int .u8 0, .int .u8 0, .int .u8 0, .int .u8 0, .int .u8 0, .int .u8 0, .int .u8 0, .int .u8 0, .int .u8 0, .int .u8 0, .int .u8 0, .int .u8 0, .int .u8 0, .int .u8 0, .int .u8 0, .int .u8 0, .int .u8 0, .int .u8 0, .int .u8 0, .int .u8 0, .slice none 0 0] 60)) = w0 from hw0]
 clear hw0
 go_wp2_with (first | refine wpl_copy rfl _ _ rfl _ _ rfl rfl (HRUN.out _) ?_ | refine wpList_store_row rfl 60 _ _ rfl _ (RV.cells ⟨1, z32, some ⟨w0.heap.size, 0, none⟩, n, n⟩).toArray rfl rfl 60 _ HRES.out (Zb1 rfl) (Zbr rfl) (all_oneCell_toArray (RV.one _)) ?_)
 refine bodyPost_ret (Zh5 Tryz.results52 _ _ w.heap.size ⟨1, z32, some ⟨w0.heap.size, 0, none⟩, n, n⟩ rfl rfl (setRow_heap _ _ _ _ _ _ HRES.out)) rfl ?_
 have hne : w0.heap.size ≠ w.heap.size := by have := HS0.out; omega
 have hr2 : Row w0.heap.size (w1.setRow w.heap.size (RV.cells ⟨1, z32, some ⟨w0.heap.size, 0, none⟩, n, n⟩).toArray) b := (setRow_other _ _ _ _ hne).trans HROW.out
 refine ⟨⟨⟨1, z32, some ⟨w0.heap.size, 0, none⟩, n, n⟩, rfl, rfl, rfl, Ziw, rfl, row_ag (n := n) hr2 HLB.out HBB.out (by omega), by show n <= _; omega, fun g off e _ => ?_⟩, Below.setRow HB.out (Nat.le_refl _) _⟩
 cases e
 exact ⟨by have := HS0.out; omega, fun o => frozen_of_row _ _ _ _ _ hr2⟩
end Go.Proofs.YtdkpilgelgjieaaGreat
namespace Go.Proofs.YtdkpilgelgjieaaGreat
open Go.RowKit
open Di (dref)
theorem Ztq : (fun (d0 d1 d2 d3 d4 d5 d6 d7 d8 d9 d10 d11 d12 d13 d14 d15 d16 d17 d18 d19 d20 d21 d22 d23 d24 d25 d26 d27 d28 d29 d30 d31 : Int) => Tryz.prog.built 60 [(0, .int .i64 2), (1, .agg (B8 [d0, d1, d2, d3, d4, d5, d6, d7, d8, d9, d10, d11, d12, d13, d14, d15, d16, d17, d18, d19, d20, d21, d22, d23, d24, d25, d26, d27, d28, d29, d30, d31]))]) = fun d0 d1 d2 d3 d4 d5 d6 d7 d8 d9 d10 d11 d12 d13 d14 d15 d16 d17 d18 d19 d20 d21 d22 d23 d24 d25 d26 d27 d28 d29 d30 d31 => some (RV.cells ⟨2, [d0, d1, d2, d3, d4, d5, d6, d7, d8, d9, d10, d11, d12, d13, d14, d15, d16, d17, d18, d19, d20, d21, d22, d23, d24, d25, d26, d27, d28, d29, d30, d31], none, 0, 0⟩).toArray := by kernel_rfl
theorem Zms (ds : List Int) (h : ds.length = 32) : Tryz.prog.built 60 [(0, .int .i64 2), (1, .agg (B8 ds))] = some (RV.cells ⟨2, ds, none, 0, 0⟩).toArray := by
 match ds, h with
 | [d0, d1, d2, d3, d4, d5, d6, d7, d8, d9, d10, d11, d12, d13, d14, d15, d16, d17, d18, d19, d20, d21, d22, d23, d24, d25, d26, d27, d28, d29, d30, d31], _ =>
  have e := Ztq
  have e := congrFun e d0
  have e := congrFun e d1
  have e := congrFun e d2
  have e := congrFun e d3
  have e := congrFun e d4
  have e := congrFun e d5
  have e := congrFun e d6
  have e := congrFun e d7
  have e := congrFun e d8
  have e := congrFun e d9
  have e := congrFun e d10
  have e := congrFun e d11
  have e := congrFun e d12
  have e := congrFun e d13
  have e := congrFun e d14
  have e := congrFun e d15
  have e := congrFun e d16
  have e := congrFun e d17
  have e := congrFun e d18
  have e := congrFun e d19
  have e := congrFun e d20
  have e := congrFun e d21
  have e := congrFun e d22
  have e := congrFun e d23
  have e := congrFun e d24
  have e := congrFun e d25
  have e := congrFun e d26
  have e := congrFun e d27
  have e := congrFun e d28
  have e := congrFun e d29
  have e := congrFun e d30
  have e := congrFun e d31
  exact e
theorem Zxk {a : Act} {w : World} {o : Oper} (ho : o.op = .buildSlice 32 0 #[]) : (execOp a.eval o).run Tryz.prog w = .ok (.value (.slice (some ⟨w.heap.size, 0, none⟩) 0 0)) (w.alloc (.cells #[] 5)) := by
 unfold execOp
 rw [ho]
 go_simp
theorem Znq {fn : Func} {p : Tmp} (h : fn.results = #[.cell p 60]) {post : Ending -> World -> Prop} {Q : Exit -> Act -> World -> Prop} {a : Act} {w : World} (hQ : bodyPost Tryz.prog fn post .ret a w -> Q .ret a w) (g : Nat) (y : RV) (hl : y.d.length = 32)
  (hp : a.tmps.getD p undef = .pointer (some ⟨g, 0, none⟩)) (hd : a.defers = []) (hg : w.heap[g]? = some (.cells y.cells.toArray 60)) (hpost : post (.returned (.agg y.cells.toArray)) w) :
  Code.wp Tryz.prog .ret Q a w := wp_ret (hQ <| bodyPost_ret (Zh5 h _ _ g y hl hp hg) hd hpost)
def referP (b : List Int) : PR := if b.length < 32 then ⟨1, z32, b⟩ else ⟨2, dref b, []⟩
def RfPost (w : World) (b : List Int) : Ending -> World -> Prop := fun e w' => (∃ y : RV, e = .returned (.agg y.cells.toArray) /\ RefAt (Own w.heap.size w') w' y (referP b)) /\ Below w.heap.size w w'
set_option maxHeartbeats 4000000 in
theorem Zlx (a : Option Addr) (n c : Nat) (b : List Int) (w : World) (h : Ag w a n c b) (hn : n <= 140737488351232) : Calls Tryz.prog 52 #[.slice a n c] w (RfPost w b) := by
 have hl := h.l
 by_cases h32 : n < 32
 ·have hr : referP b = ⟨1, z32, b⟩ := by unfold referP; rw [if_pos (by omega)]
  unfold RfPost
  rw [hr]
  exact Znd a n c b w h h32
 ·have hr : referP b = ⟨2, dref b, []⟩ := by unfold referP; rw [if_neg (by omega)]
  unfold RfPost
  rw [hr]
  have h32i : (n : Int) ≥ 32 := by omega
  have HOF := Hid.mk (fun v (hv : Below w.heap.size w v) => Znt a n c b v (h.at hv) hn)
  have HDL := Hid.mk (dref_len b)
  have HDB := Hid.mk (Zpd b)
  obtain ⟨ds, hds⟩ : ∃ ds, dref b = ds := ⟨_, rfl⟩
  rw [hds] at HOF HDL HDB ⊢
  clear hr h hl hds
  go_enter Tryz.func52, Tryz.ntmps52
  go_upto_region 1 with fail
  refine gen_w (p := fun v => Code.wp _ _ _ _ v) (q := fun v => v.heap[w.heap.size]? = some (.cells rz.cells.toArray 60) /\ Below w.heap.size w v) ⟨heap_alloc_new _ _, below_new _ _⟩ ?_
  rintro v ⟨hrow, hb⟩
  have HROW := Hid.mk hrow
  have HB := Hid.mk hb
  clear hrow hb
  go_upto_region 2 with fail
  rename_i KK hkk
  refine wp_region_lit <| Zal 7 (.slice a n c) rfl (by kernel_rfl) (by kernel_rfl) <| Zkg 8 rfl (by kernel_rfl) 34 #[.slice a n c] (by kernel_rfl) (R := fun val w' => val = .agg (B8 ds) /\ Below v.heap.size v w') ((HOF.out v HB.out).mono (fun e w' h => ⟨_, h.1, rfl, h.2⟩)) ?_
  rintro val w1 ⟨rfl, hb1⟩
  have hrow1 := Below.row hb1 HROW.out
  refine Zal 9 (.agg (RV.cells ⟨2, ds, none, 0, 0⟩).toArray) rfl (by kernel_rfl) (Zb9 60 _ rfl [(0, .int .i64 2), (1, .agg (B8 ds))] (by kernel_rfl) _ (Zms ds HDL.out)) <| Zdy rfl (by kernel_rfl) (Zbs 60 _ _ rfl w.heap.size (RV.cells ⟨2, ds, none, 0, 0⟩).toArray (by kernel_rfl) (by kernel_rfl) 60 rz.cells.toArray hrow1 (Zb1 HDL.out) (Zbr HDL.out) (all_oneCell_toArray (RV.one _))) <| hkk _ _ <| Znq (post := fun e w' => (∃ y : RV, e = .returned (.agg y.cells.toArray) /\ RefAt (Own w.heap.size w') w' y ⟨2, ds, []⟩) /\ Below w.heap.size w w') Tryz.results52 (fun h => h) w.heap.size ⟨2, ds, none, 0, 0⟩ HDL.out (by kernel_rfl) (by kernel_rfl) (setRow_heap _ _ _ _ _ _ hrow1) ?_
  exact ⟨⟨⟨2, ds, none, 0, 0⟩, rfl, rfl, rfl, HDB.out, HDL.out, Zd7 _ _⟩, Below.setRow (below_go HB.out hb1) (Nat.le_refl _) _⟩
end Go.Proofs.YtdkpilgelgjieaaGreat
namespace Go.Proofs.YtdkpilgelgjieaaGreat
open Go.RowKit
open Tr
namespace Tr
def encT : Tr -> List Int
 | no => []
 | leaf p v => (NEP ⟨1, p, v, r0, []⟩).1
 | ext p c => (NEP ⟨2, p, [], referP (encT c), []⟩).1
 | br k x => (NEP ⟨3, [], x, r0, (List.range 16).map fun i => if (k i).isNo then r0 else referP (encT (k i))⟩).1
def nm1 (b : List Int) : List (List Int) := if b.length < 32 then [] else [b]
def nmd : Tr -> List (List Int)
 | no => []
 | leaf _ _ => []
 | ext _ c => nmd c ++ nm1 (encT c)
 | br k _ => (List.range 16).flatMap fun i => if (k i).isNo then [] else nmd (k i) ++ nm1 (encT (k i))
end Tr
def nodeP : Tr -> PN
 | no => n0
 | leaf p v => ⟨1, p, v, r0, []⟩
 | ext p c => ⟨2, p, [], referP (encT c), []⟩
 | br k x => ⟨3, [], x, r0, (List.range 16).map fun i => if (k i).isNo then r0 else referP (encT (k i))⟩
theorem Zte {t : Tr} (h : t ≠ no) : encT t = (NEP (nodeP t)).1 := by
 cases t with
 | no => exact absurd rfl h
 | leaf p v => rfl
 | ext p c => rfl
 | br k x => rfl
def KW (gW : Nat) (vN : Value) (X : Nat -> Prop) : Nat -> Prop := fun b => b ≠ gW /\ vN.ownBlock ≠ some b /\ X b
def RowS (K : Nat -> Prop) (w : World) (vals : List Value) (ns : List (List Int)) : Prop := vals.length = ns.length /\ ∀ j v, vals[j]? = some v -> ∃ a n c, v = .slice a n c /\ Sk K w a n c (ns.getD j [])
structure Wt (w : World) (gW base : Nat) (vN : Value) (X : Nat -> Prop) (ns : List (List Int)) : Prop where
 r : Rw gW w #[vN] 77
 o : ∃ vals, w.ownsRow base 32 1 vN ns.length vals /\ RowS (KW gW vN X) w vals ns
 b : base <= gW
structure Wg (w w' : World) (gW : Nat) (vN vN' : Value) : Prop where
 os : w'.os = w.os
 tape : w'.tape = w.tape
 output : w'.output = w.output
 size : w.heap.size <= w'.heap.size
 block : ∀ k, k < w.heap.size -> k ≠ gW -> vN.ownBlock ≠ some k -> w'.heap[k]? = w.heap[k]?
 own : vN'.ownBlock = vN.ownBlock \/ ∀ k, vN'.ownBlock = some k -> w.heap.size <= k
theorem Zcr {P : Program} {ρ : Operand -> Value} {w : World} {o : Oper} (t : TypeId) (parts : Array (Nat × Operand)) (l : List (Nat × Value)) (cells : Array Value) (ho : o.op = .build t parts) (hl : (parts.map fun (i, x) => (i, ρ x)).toList = l) (hf : P.built t l = some cells) : (execOp ρ o).run P w = .ok (.value (.agg cells)) w := by
 unfold execOp
 rw [ho]
 have := run_build (P := P) w t (parts.map fun (i, x) => (i, ρ x)) cells (by rw [hl]; exact hf)
 simp only [Sem.run_bind, this, Result.andThen_ok, Sem.run_pure]
theorem Zft {y : NV} (h : y.c.d.length = 32) : y.cells.toArray.size = 38 := by rw [List.size_toArray, NV.len h]
theorem Zrp {fn : Func} {p : Tmp} {f : Nat -> Value} (h : fn.results = #[.cell p 104]) (w : World) (g : Nat) (y : NV) (hl : y.c.d.length = 32) (hp : f p = .pointer (some ⟨g, 0, none⟩)) (hg : Rw g w y.cells.toArray 104) : (resF f fn.results).run Tryz.prog w = .ok (.agg y.cells.toArray) w := by
 have := run_loadVar_row (P := Tryz.prog) w g 104 104 _ _ _ hg Tryz.underlying104 rfl (by rw [Zge, Zft hl])
 unfold resF
 rw [h]
 simp [hp, this, asAddr]
theorem Sk.agk {K : Nat -> Prop} {w : World} {a : Option Addr} {n c : Nat} {bs : List Int} (h : Sk K w a n c bs) (hn : n <= 140737488351232) : AgK (fun _ => True) w a n c bs := ⟨h.ag, hn, fun _ _ _ _ => trivial⟩
def RNd (w : World) (gW base : Nat) (vN : Value) (X : Nat -> Prop) (ns : List (List Int)) (t : Tr) : Value -> World -> Prop := fun u w' => ∃ (y : NV) (vN' : Value), u = .agg y.cells.toArray /\ NodeAt (fun _ => True) w' y (nodeP t) /\ Wt w' gW base vN' X (ns ++ nmd t) /\ Wg w w' gW vN vN'
def REn (w : World) (gW base : Nat) (vN : Value) (X : Nat -> Prop) (ns : List (List Int)) (t : Tr) : Value -> World -> Prop := fun u w' => ∃ (a : Option Addr) (n c : Nat) (vN' : Value), u = .slice a n c /\ Sk (KW gW vN' (fun b => w.heap.size <= b)) w' a n c (encT t) /\ Wt w' gW base vN' X (ns ++ nmd t) /\ Wg w w' gW vN vN' /\ (encT t).length <= 65540
theorem Znj {n : PN} (ho : okN n) : (NEP n).1.length <= 65540 := by
 unfold NEP
 split
 ·rename_i h; exact (Zc5 ho h).2.2
 ·simp
theorem Zuu (w : World) : RefAt (fun _ => True) w rz r0 := ⟨rfl, rfl, fun x hx => by rw [List.mem_replicate.1 hx |>.2]; omega, rfl, ⟨.inl ⟨rfl, rfl⟩, fun _ => ⟨rfl, rfl⟩, rfl, fun x hx => by cases hx⟩, Nat.zero_le _, fun _ _ _ _ => trivial⟩
theorem Zoj {y : RV} (h : y.d.length = 32) : y.cells.toArray.size = 34 := by rw [List.size_toArray, RV.len h]
theorem Zwc (y : RV) : y.cells.toArray.all (·.oneCell') = true := all_oneCell_toArray (RV.one y)
structure Rf (K : Nat -> Prop) (w : World) (y : RV) (r : PR) : Prop where
 at' : RefAt K w y r
def RRf (w : World) (gW base : Nat) (vN : Value) (X : Nat -> Prop) (ns : List (List Int)) (t : Tr) : Value -> World -> Prop := fun u w' => ∃ (y : RV) (vN' : Value), u = .agg y.cells.toArray /\ Rf (KW gW vN' (fun b => w.heap.size < b)) w' y (referP (encT t)) /\ Wt w' gW base vN' X (ns ++ (nmd t ++ nm1 (encT t))) /\ Wg w w' gW vN vN'
end Go.Proofs.YtdkpilgelgjieaaGreat

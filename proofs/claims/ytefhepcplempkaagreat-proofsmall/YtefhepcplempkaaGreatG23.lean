/- What Refer answers of fewer than 32 bytes. -/
import Derived.Test.YtefhepcplempkaaGreatG15
import Derived.Test.YtefhepcplempkaaGreatG14
import Derived.Test.YtefhepcplempkaaGreatG21
import Derived.Test.YtefhepcplempkaaGreatG22
import Derived.Maps.AppendAt
import Derived.Test.YtefhepcplempkaaGreatG00
set_option linter.unusedVariables false
set_option maxRecDepth 100000
namespace Go.Proofs.YtefhepcplempkaaGreat
open Go.RowKit
theorem Zgx {fn : Func} {p : Tmp} (h : fn.results = #[.cell p 65]) (tmps : Array Value) (w : World) (g : Nat) (y : RV) (hl : y.d.length = 32) (hp : tmps.getD p undef = .pointer (some ⟨g, 0, none⟩)) (hg : w.heap[g]? = some (.cells y.cells.toArray 65)) :
  (results fn tmps).run Tryz.prog w = .ok (.agg y.cells.toArray) w :=
 results_cell_row h tmps w g 65 y.cells.toArray (0, 0) _ hp hg Tryz.underlying65 rfl (Zct hl)
set_option maxHeartbeats 4000000 in
theorem Zlu (a : Option Addr) (n c : Nat) (b : List Int) (w : World) (h : Ag w a n c b) (hn : n < 32) :
  Calls Tryz.prog 118 #[.slice a n c] w fun e w' => (∃ y : RV, e = .returned (.agg y.cells.toArray) /\ RefAt (Own w.heap.size w') w' y ⟨1, z32, b⟩) /\ Below w.heap.size w w' := by
 have hmk := run_make_row' (P := Tryz.prog) 23 5 (.int .u8 0) 1 Tryz.underlying23 info5b rfl .i64 .i64 n (by omega) (by omega)
 obtain ⟨w0, hw0⟩ : ∃ w0, w.alloc (.cells rz.cells.toArray 65) = w0 := ⟨_, rfl⟩
 have hs0 : w0.heap.size = w.heap.size + 1 := by rw [<- hw0]; simp
 have hbw0 : Below w.heap.size w w0 := by rw [<- hw0]; exact below_new _ _
 have hres : w0.heap[w.heap.size]? = some (.cells rz.cells.toArray 65) := by rw [<- hw0]; exact heap_alloc_new _ _
 have hrow : Row w0.heap.size (w0.alloc (.cells (madeCells #[.int .u8 0] n) 5)) (List.replicate n 0) := by
  unfold Row; rw [heap_alloc_new, made_bytes]
 have hbw : Below w.heap.size w (w0.alloc (.cells (madeCells #[.int .u8 0] n) 5)) := hbw0.alloc (by omega) _
 obtain ⟨w1, hrun, hrow1, ht⟩ := Zju (o := 0) (dl := n) (dc := n) (da := some ⟨w0.heap.size, 0, none⟩) hrow (h.at hbw) rfl (by simp) (fun _ => rfl)
 rw [List.take_zero, List.nil_append, Nat.zero_add, List.drop_of_length_le (by simp), List.append_nil] at hrow1
 have hres1 : w1.heap[w.heap.size]? = some (.cells rz.cells.toArray 65) := (ht.block _ (by simp; omega) (by omega)).trans ((Below.heap_alloc _ _ _ (by omega)).trans hres)
 have hb1 := Touch.below hbw ht (by omega) hbw.size
 have HRUN := Hid.mk hrun
 have HROW := Hid.mk hrow1
 have HB := Hid.mk hb1
 have HRES := Hid.mk hres1
 have HD0 := Hid.mk hbw0
 have HS0 := Hid.mk hs0
 have HLB := Hid.mk h.l
 have HBB := Hid.mk h.b
 have h32 : ¬ (n : Int) ≥ 32 := by omega
 clear hrow hrun hrow1 ht hbw h hbw0 hres hres1 hb1 hs0
 go_enter Tryz.func118, Tryz.ntmps118
 go_upto_region 1 with fail
 rw [show (w.alloc (.cells #[.int .i64 0, .int .u8 0, .int .u8 0, .int .u8 0, .int .u8 0, .int .u8 0, .int .u8 0, .int .u8 0, .int .u8 0, .int .u8 0, .int .u8 0, .int .u8 0, .int .u8 0, .int .u8 0, .int .u8 0, .int .u8 0, .int .u8 0, .int .u8 0, .int .u8 0, .int .u8 0, .int .u8 0, .int .u8 0, .int .u8 0, .int .u8 0, .int .u8 0, .int .u8 0, .int .u8 0, .int .u8 0, .int .u8 0, .int .u8 0, .int .u8 0, .int .u8 0, .int .u8 0, .slice none 0 0] 65)) = w0 from hw0]
 clear hw0
 go_wp2_with (first | refine wpl_copy rfl _ _ rfl _ _ rfl rfl (HRUN.out _) ?_ | refine wpList_store_row rfl 65 _ _ rfl _ (RV.cells ⟨1, z32, some ⟨w0.heap.size, 0, none⟩, n, n⟩).toArray rfl rfl 65 _ HRES.out (Zct rfl) (Zb4 rfl) (all_oneCell_toArray (RV.one _)) ?_)
 refine bodyPost_ret (Zgx Tryz.results118 _ _ w.heap.size ⟨1, z32, some ⟨w0.heap.size, 0, none⟩, n, n⟩ rfl rfl (setRow_heap _ _ _ _ _ _ HRES.out)) rfl ?_
 have hne : w0.heap.size ≠ w.heap.size := by have := HS0.out; omega
 have hr2 : Row w0.heap.size (w1.setRow w.heap.size (RV.cells ⟨1, z32, some ⟨w0.heap.size, 0, none⟩, n, n⟩).toArray) b := (setRow_other _ _ _ _ hne).trans HROW.out
 refine ⟨⟨⟨1, z32, some ⟨w0.heap.size, 0, none⟩, n, n⟩, rfl, rfl, rfl, Zl5, rfl, row_ag (n := n) hr2 HLB.out HBB.out (by omega), by show n <= _; omega, fun g off e _ => ?_⟩, Below.setRow HB.out (Nat.le_refl _) _⟩
 cases e
 exact ⟨by have := HS0.out; omega, fun o => frozen_of_row _ _ _ _ _ hr2⟩
end Go.Proofs.YtefhepcplempkaaGreat
namespace Go.Proofs.YtefhepcplempkaaGreat
open Go.RowKit
open Di (dref)
theorem Zsl : (fun (d0 d1 d2 d3 d4 d5 d6 d7 d8 d9 d10 d11 d12 d13 d14 d15 d16 d17 d18 d19 d20 d21 d22 d23 d24 d25 d26 d27 d28 d29 d30 d31 : Int) => Tryz.prog.built 65 [(0, .int .i64 2), (1, .agg (B8 [d0, d1, d2, d3, d4, d5, d6, d7, d8, d9, d10, d11, d12, d13, d14, d15, d16, d17, d18, d19, d20, d21, d22, d23, d24, d25, d26, d27, d28, d29, d30, d31]))]) = fun d0 d1 d2 d3 d4 d5 d6 d7 d8 d9 d10 d11 d12 d13 d14 d15 d16 d17 d18 d19 d20 d21 d22 d23 d24 d25 d26 d27 d28 d29 d30 d31 => some (RV.cells ⟨2, [d0, d1, d2, d3, d4, d5, d6, d7, d8, d9, d10, d11, d12, d13, d14, d15, d16, d17, d18, d19, d20, d21, d22, d23, d24, d25, d26, d27, d28, d29, d30, d31], none, 0, 0⟩).toArray := by kernel_rfl
theorem Zlf (ds : List Int) (h : ds.length = 32) : Tryz.prog.built 65 [(0, .int .i64 2), (1, .agg (B8 ds))] = some (RV.cells ⟨2, ds, none, 0, 0⟩).toArray := by
 match ds, h with
 | [d0, d1, d2, d3, d4, d5, d6, d7, d8, d9, d10, d11, d12, d13, d14, d15, d16, d17, d18, d19, d20, d21, d22, d23, d24, d25, d26, d27, d28, d29, d30, d31], _ =>
  have e := Zsl
  have e := congrFun e d0
  have e := congrFun e d1
  have e := congrFun e d2
  have e := congrFun e d3
  have e := congrFun e d4
  have e := congrFun e d5
  have e := congrFun e d6
  have e := congrFun e d7
  have e := congrFun e d8
  have e := congrFun e d9
  have e := congrFun e d10
  have e := congrFun e d11
  have e := congrFun e d12
  have e := congrFun e d13
  have e := congrFun e d14
  have e := congrFun e d15
  have e := congrFun e d16
  have e := congrFun e d17
  have e := congrFun e d18
  have e := congrFun e d19
  have e := congrFun e d20
  have e := congrFun e d21
  have e := congrFun e d22
  have e := congrFun e d23
  have e := congrFun e d24
  have e := congrFun e d25
  have e := congrFun e d26
  have e := congrFun e d27
  have e := congrFun e d28
  have e := congrFun e d29
  have e := congrFun e d30
  have e := congrFun e d31
  exact e
theorem Zyh {fn : Func} {p : Tmp} (h : fn.results = #[.cell p 65]) {post : Ending -> World -> Prop} {Q : Exit -> Act -> World -> Prop} {a : Act} {w : World} (hQ : bodyPost Tryz.prog fn post .ret a w -> Q .ret a w) (g : Nat) (y : RV) (hl : y.d.length = 32)
  (hp : a.tmps.getD p undef = .pointer (some ⟨g, 0, none⟩)) (hd : a.defers = []) (hg : w.heap[g]? = some (.cells y.cells.toArray 65)) (hpost : post (.returned (.agg y.cells.toArray)) w) :
  Code.wp Tryz.prog .ret Q a w := wp_ret (hQ <| bodyPost_ret (Zgx h _ _ g y hl hp hg) hd hpost)
def referP (b : List Int) : PR := if b.length < 32 then ⟨1, z32, b⟩ else ⟨2, dref b, []⟩
def RfPost (w : World) (b : List Int) : Ending -> World -> Prop := fun e w' => (∃ y : RV, e = .returned (.agg y.cells.toArray) /\ RefAt (Own w.heap.size w') w' y (referP b)) /\ Below w.heap.size w w'
set_option maxHeartbeats 4000000 in
theorem Zdp (a : Option Addr) (n c : Nat) (b : List Int) (w : World) (h : Ag w a n c b) (hn : n <= 140737488351232) : Calls Tryz.prog 118 #[.slice a n c] w (RfPost w b) := by
 have hl := h.l
 by_cases h32 : n < 32
 ·have hr : referP b = ⟨1, z32, b⟩ := by unfold referP; rw [if_pos (by omega)]
  unfold RfPost
  rw [hr]
  exact Zlu a n c b w h h32
 ·have hr : referP b = ⟨2, dref b, []⟩ := by unfold referP; rw [if_neg (by omega)]
  unfold RfPost
  rw [hr]
  have h32i : (n : Int) ≥ 32 := by omega
  have HOF := Hid.mk (fun v (hv : Below w.heap.size w v) => Zjq a n c b v (h.at hv) hn)
  have HDL := Hid.mk (dref_len b)
  have HDB := Hid.mk (Zjp b)
  obtain ⟨ds, hds⟩ : ∃ ds, dref b = ds := ⟨_, rfl⟩
  rw [hds] at HOF HDL HDB ⊢
  clear hr h hl hds
  go_enter Tryz.func118, Tryz.ntmps118
  go_upto_region 1 with fail
  refine gen_w (p := fun v => Code.wp _ _ _ _ v) (q := fun v => v.heap[w.heap.size]? = some (.cells rz.cells.toArray 65) /\ Below w.heap.size w v) ⟨heap_alloc_new _ _, below_new _ _⟩ ?_
  rintro v ⟨hrow, hb⟩
  have HROW := Hid.mk hrow
  have HB := Hid.mk hb
  clear hrow hb
  go_upto_region 2 with fail
  rename_i KK hkk
  refine wp_region_lit <| Zca 7 (.slice a n c) rfl (by kernel_rfl) (by kernel_rfl) <| Zwm 8 rfl (by kernel_rfl) 39 #[.slice a n c] (by kernel_rfl) (R := fun val w' => val = .agg (B8 ds) /\ Below v.heap.size v w') ((HOF.out v HB.out).mono (fun e w' h => ⟨_, h.1, rfl, h.2⟩)) ?_
  rintro val w1 ⟨rfl, hb1⟩
  have hrow1 := Below.row hb1 HROW.out
  refine Zca 9 (.agg (RV.cells ⟨2, ds, none, 0, 0⟩).toArray) rfl (by kernel_rfl) (Zdz 65 _ rfl [(0, .int .i64 2), (1, .agg (B8 ds))] (by kernel_rfl) _ (Zlf ds HDL.out)) <| Zll rfl (by kernel_rfl) (Zcc 65 _ _ rfl w.heap.size (RV.cells ⟨2, ds, none, 0, 0⟩).toArray (by kernel_rfl) (by kernel_rfl) 65 rz.cells.toArray hrow1 (Zct HDL.out) (Zb4 HDL.out) (all_oneCell_toArray (RV.one _))) <| hkk _ _ <| Zyh (post := fun e w' => (∃ y : RV, e = .returned (.agg y.cells.toArray) /\ RefAt (Own w.heap.size w') w' y ⟨2, ds, []⟩) /\ Below w.heap.size w w') Tryz.results118 (fun h => h) w.heap.size ⟨2, ds, none, 0, 0⟩ HDL.out (by kernel_rfl) (by kernel_rfl) (setRow_heap _ _ _ _ _ _ hrow1) ?_
  exact ⟨⟨⟨2, ds, none, 0, 0⟩, rfl, rfl, rfl, HDB.out, HDL.out, Zhx _ _⟩, Below.setRow (below_go HB.out hb1) (Nat.le_refl _) _⟩
end Go.Proofs.YtefhepcplempkaaGreat
namespace Go.Proofs.YtefhepcplempkaaGreat
open Go.RowKit
open Tr
namespace Tr
def encT : Tr -> List Int
 | no => []
 | leaf p v => (NEP ⟨1, p, v, r0, []⟩).1
 | ext p c => (NEP ⟨2, p, [], referP (encT c), []⟩).1
 | br k x => (NEP ⟨3, [], x, r0, (List.range 16).map fun i => if (k i).isNo then r0 else referP (encT (k i))⟩).1
def nm1 (b : List Int) : List (List Int) := if b.length < 32 then [] else [b]
def nmd : Tr -> List (List Int)
 | no => []
 | leaf _ _ => []
 | ext _ c => nmd c ++ nm1 (encT c)
 | br k _ => (List.range 16).flatMap fun i => if (k i).isNo then [] else nmd (k i) ++ nm1 (encT (k i))
end Tr
def nodeP : Tr -> PN
 | no => n0
 | leaf p v => ⟨1, p, v, r0, []⟩
 | ext p c => ⟨2, p, [], referP (encT c), []⟩
 | br k x => ⟨3, [], x, r0, (List.range 16).map fun i => if (k i).isNo then r0 else referP (encT (k i))⟩
theorem Ze9 {t : Tr} (h : t ≠ no) : encT t = (NEP (nodeP t)).1 := by
 cases t with
 | no => exact absurd rfl h
 | leaf p v => rfl
 | ext p c => rfl
 | br k x => rfl
def KW (gW : Nat) (vN : Value) (X : Nat -> Prop) : Nat -> Prop := fun b => b ≠ gW /\ vN.ownBlock ≠ some b /\ X b
def RowS (K : Nat -> Prop) (w : World) (vals : List Value) (ns : List (List Int)) : Prop := vals.length = ns.length /\ ∀ j v, vals[j]? = some v -> ∃ a n c, v = .slice a n c /\ Sk K w a n c (ns.getD j [])
structure Wt (w : World) (gW base : Nat) (vN : Value) (X : Nat -> Prop) (ns : List (List Int)) : Prop where
 r : Rw gW w #[vN] 80
 o : ∃ vals, w.ownsRow base 23 1 vN ns.length vals /\ RowS (KW gW vN X) w vals ns
 b : base <= gW
structure Wg (w w' : World) (gW : Nat) (vN vN' : Value) : Prop where
 os : w'.os = w.os
 tape : w'.tape = w.tape
 output : w'.output = w.output
 size : w.heap.size <= w'.heap.size
 block : ∀ k, k < w.heap.size -> k ≠ gW -> vN.ownBlock ≠ some k -> w'.heap[k]? = w.heap[k]?
 own : vN'.ownBlock = vN.ownBlock \/ ∀ k, vN'.ownBlock = some k -> w.heap.size <= k
theorem Wg.of_below {w w' : World} {gW : Nat} {vN : Value} (h : Bl w w') : Wg w w' gW vN vN := ⟨Below.os h, Below.tape h, Below.output h, h.size, fun k hk _ _ => Below.block h k hk, .inl rfl⟩
theorem Wg.trans {w w1 w2 : World} {gW : Nat} {v v1 v2 : Value} (h : Wg w w1 gW v v1) (g : Wg w1 w2 gW v1 v2) : Wg w w2 gW v v2 := by
 refine ⟨g.os.trans h.os, g.tape.trans h.tape, g.output.trans h.output, Nat.le_trans h.size g.size, fun k hk hg hv => ?_, ?_⟩
 ·refine (g.block k (Nat.lt_of_lt_of_le hk h.size) hg ?_).trans (h.block k hk hg hv)
  rcases h.own with e | e
  ·rw [e]; exact hv
  ·intro q; have := e k q; omega
 ·rcases g.own with e | e
  ·rcases h.own with e2 | e2
   ·exact .inl (e.trans e2)
   ·exact .inr (fun k hk => e2 k (e ▸ hk))
  ·exact .inr (fun k hk => Nat.le_trans h.size (e k hk))
theorem Wg.row {w w' : World} {gW base : Nat} {X : Nat -> Prop} {vN vN' : Value} {ns : List (List Int)} (h : Wg w w' gW vN vN') (hw : Wt w gW base vN X ns) {g : Nat} {cells : Array Value} {T : TypeId} {fr : Nat × Nat} (hr : w.heap[g]? = some (.cells cells T fr)) (h1 : T ≠ 23) (h2 : T ≠ 80) : w'.heap[g]? = some (.cells cells T fr) := by
 refine (h.block g (lt_of_get hr) ?_ ?_).trans hr
 ·rintro rfl
  have := hw.r
  rw [Rw, hr] at this
  simp at this
  exact h2 this.2.1
 ·intro e
  obtain ⟨vals, ⟨_, ho⟩, _⟩ := hw.o
  rcases ho with ⟨rfl, _⟩ | ⟨g', cap, cur, rfl, _, hg, _⟩
  ·cases e
  ·have e : g' = g := by simpa [Value.ownBlock] using e
   subst e
   rw [hr] at hg
   simp at hg
   exact h1 hg.2.1
theorem Sk.wg {X : Nat -> Prop} {w w' : World} {gW : Nat} {vN vN' : Value} {a : Option Addr} {n c : Nat} {bs : List Int} (h : Sk (KW gW vN X) w a n c bs) (g : Wg w w' gW vN vN') : Sk (KW gW vN' X) w' a n c bs := by
 refine ⟨⟨?_, h.ag.nil, h.ag.l, h.ag.b⟩, fun x hx hn => ?_⟩
 ·rcases h.ag.i with h1 | ⟨gb, off, h1, h2, h3, h4, h5, h7⟩
  ·exact .inl h1
  ·refine .inr ⟨gb, off, h1, h2, h3, h4, h5, fun j hj => ?_⟩
   rw [<- h7 j hj]
   have hk := h.k _ h1 h3
   exact World.cell?_of_block (g.block gb (block_lt_of_cell (h7 j hj)) hk.1 hk.2.1)
 ·have hk := h.k x hx hn
  refine ⟨hk.1, ?_, hk.2.2⟩
  rcases g.own with e | e
  ·rw [e]; exact hk.2.1
  ·intro q
   have h1 := e _ q
   have h2 := h.old hx hn
   omega
theorem TA.wg {X : Nat -> Prop} {w w' : World} {gW : Nat} {vN vN' : Value} (g : Wg w w' gW vN vN') : ∀ {t : Tr} {v : Value}, TA (KW gW vN X) w t v -> TA (KW gW vN' X) w' t v := by
 intro t
 induction t with
 | no => intro v h; exact h
 | leaf p x => rintro v ⟨a, n, c, a', n', c', h1, h2, h3, h4⟩; exact ⟨a, n, c, a', n', c', h1, h2.wg g, h3.wg g, h4⟩
 | ext p t ih => rintro v ⟨a, n, c, u, h1, h2, h3⟩; exact ⟨a, n, c, u, h1, h2.wg g, ih h3⟩
 | br k x ih => rintro v ⟨vs, a, n, c, h1, h2, h3, h4⟩; exact ⟨vs, a, n, c, h1, fun i hi => ih i (h2 i hi), h3.wg g, h4⟩
theorem TK.wg {X : Nat -> Prop} {w w' : World} {gW : Nat} {vN vN' : Value} {k : Nat -> Tr} {vs : Nat -> Value} (h : TK (KW gW vN X) w k vs) (g : Wg w w' gW vN vN') : TK (KW gW vN' X) w' k vs := fun i hi => (h i hi).wg g
theorem Rw.wg {w w' : World} {gW base : Nat} {X : Nat -> Prop} {vN vN' : Value} {ns : List (List Int)} {g : Nat} {cells : Array Value} {T : TypeId} (h : Rw g w cells T) (hg : Wg w w' gW vN vN') (hw : Wt w gW base vN X ns) (h1 : T ≠ 23) (h2 : T ≠ 80) : Rw g w' cells T := hg.row hw h h1 h2
theorem Wt.go {w w' : World} {gW base : Nat} {X : Nat -> Prop} {vN : Value} {ns : List (List Int)} (h : Wt w gW base vN X ns) (hb : Below w.heap.size w w') : Wt w' gW base vN X ns := by
 obtain ⟨vals, h1, h2, h3⟩ := h.o
 refine ⟨h.r.go hb, ⟨vals, ⟨h1.1, by
  rcases h1.2 with q | ⟨g, cap, cur, e1, e2, e3, e4⟩
  ·exact .inl q
  ·exact .inr ⟨g, cap, cur, e1, e2, (hb.block g (lt_of_get e3)).trans e3, e4⟩⟩, h2, fun j v hj => ?_⟩, h.b⟩
 obtain ⟨a, n, c, e, hs⟩ := h3 j v hj
 exact ⟨a, n, c, e, hs.go hb⟩
theorem Wt.lt {w : World} {gW base : Nat} {X : Nat -> Prop} {vN : Value} {ns : List (List Int)} (h : Wt w gW base vN X ns) : gW < w.heap.size /\ ∀ k, vN.ownBlock = some k -> k < w.heap.size := by
 refine ⟨lt_of_get h.r, fun k hk => ?_⟩
 obtain ⟨vals, ⟨_, ho⟩, _⟩ := h.o
 rcases ho with ⟨rfl, _⟩ | ⟨g', cap, cur, rfl, _, hg, _⟩
 ·cases hk
 ·have e : g' = k := by simpa [Value.ownBlock] using hk
  subst e
  exact lt_of_get hg
theorem Wg.keep {X : Nat -> Prop} {w w' : World} {gW : Nat} {vN vN' : Value} (g : Wg w w' gW vN vN') : Keep (KW gW vN X) (KW gW vN' X) w w' := fun b hK hb => ⟨g.block b hb hK.1 hK.2.1, hK.1, by
 rcases g.own with e | e
 ·rw [e]; exact hK.2.1
 ·intro q; have := e b q; omega, hK.2.2⟩
theorem Wg.go {a b c : World} {gW : Nat} {vN vN' : Value} (h : Wg a b gW vN vN') (hb : Below b.heap.size b c) : Wg a c gW vN vN' := h.trans (Wg.of_below hb)
theorem Zul : ∃ i, Tryz.prog.info? 23 = some i /\ i.zero = some (.slice none 0 0) /\ i.size = 1 /\ i.bytes = 24 := by
 have h : (Tryz.prog.info? 23).map (fun i => (i.zero, i.size, i.bytes)) = some (some (.slice none 0 0), 1, 24) := by kernel_rfl
 cases hq : Tryz.prog.info? 23 with
 | none => rw [hq] at h; simp at h
 | some i => rw [hq] at h; simp at h; exact ⟨i, rfl, h.1, h.2.1, h.2.2⟩
theorem Wt.apart {w : World} {gW base : Nat} {X : Nat -> Prop} {vN : Value} {ns : List (List Int)} (h : Wt w gW base vN X ns) : vN.ownBlock ≠ some gW := by
 intro e
 obtain ⟨vals, ⟨_, ho⟩, _⟩ := h.o
 rcases ho with ⟨rfl, _⟩ | ⟨g', cap, cur, rfl, _, hg, _⟩
 ·cases e
 ·have e : g' = gW := by simpa [Value.ownBlock] using e
  subst e
  have := h.r
  rw [Rw, hg] at this
  simp at this
theorem Zq9 {X : Nat -> Prop} {w : World} {gW base : Nat} {vN : Value} {ns : List (List Int)} (hW : Wt w gW base vN X ns) {gL : Nat} {a : Option Addr} {n c : Nat} {b : List Int} (hs : Sk (KW gW vN X) w a n c b) (hL : Rw gL w #[.slice a n c] 23) (hlen : ns.length + 1 <= 8800000000000) :
  ∃ v' w', (∀ ty, (Builtin.append_ #[28, 28] ty #[vN, .slice (some ⟨gL, 0, none⟩) 1 1]).run Tryz.prog w = .ok v' w') /\ (∀ w2, Set1 w' w2 gW 0 v' -> Wt w2 gW base v' X (ns ++ [b]) /\ Wg w w2 gW vN v') /\ Rw gW w' #[vN] 80 /\ v'.cells = #[v'] /\ v'.oneCell' = true := by
 obtain ⟨i, hi, hz, hsz, hby⟩ := Zul
 have hap := hW.apart
 have hlt := hW.lt
 have hbw := hW.b
 have hr := hW.r
 obtain ⟨vals, hown, hvl, hvs⟩ := hW.o
 obtain ⟨v', w', h1, h2, h3, _, h5⟩ := Zeo w base 28 0 23 i (.slice none 0 0) 1 24 Tryz.underlying28 hi hz hsz hby rfl (by decide) vN ns.length vals hown ⟨gL, 0, none⟩ 1 1 [.slice a n c] rfl (fun j u hu => by
   cases j with
   | zero => rw [Za1, cell_of_row _ _ _ _ _ _ hL]; exact hu
   | succ j => simp at hu) (fun u hu => by rw [List.mem_singleton.1 hu]; rfl) (by decide) (by unfold maxLen; omega) (by omega) (by omega)
 have hrW : Rw gW w' #[vN] 80 := (h3.block gW hlt.1 (fun e => hap e.symm)).trans hr
 have hva : v'.ownBlock ≠ some gW := by
  rcases h5 with e | e
  ·rw [e]; exact hap
  ·rw [e]; intro q; simp at q; omega
 refine ⟨v', w', fun ty => h1, fun w2 hp => ?_, hrW, ?_, ?_⟩
 ·have hg : Wg w w2 gW vN v' := by
   have ht := hp.touch
   refine ⟨ht.os.trans h3.os, ht.tape.trans h3.tape, ht.output.trans h3.output, Nat.le_trans h3.size ht.size, fun k hk hg hv => (hp.other hg).trans (h3.block k hk (fun e => hv e.symm)), ?_⟩
   rcases h5 with e | e
   ·exact .inl e
   ·exact .inr (fun k hk => by rw [e] at hk; simp at hk; omega)
  refine ⟨⟨hrW.set hp rfl, ⟨vals ++ [.slice a n c], ?_, ?_, ?_⟩, hbw⟩, hg⟩
  ·rw [List.length_append, List.length_singleton]
   refine ⟨h2.1, ?_⟩
   rcases h2.2 with q | ⟨g, cap, cur, e1, e2, e3, e4⟩
   ·exact .inl q
   ·refine .inr ⟨g, cap, cur, e1, e2, (hp.other ?_).trans e3, e4⟩
    rintro rfl
    exact hva (by rw [e1]; rfl)
  ·rw [List.length_append, List.length_append, hvl]; rfl
  ·intro j u hu
   by_cases hj : j < vals.length
   ·rw [List.getElem?_append_left hj] at hu
    obtain ⟨a1, n1, c1, e1, hs1⟩ := hvs j u hu
    refine ⟨a1, n1, c1, e1, ?_⟩
    have e : (ns ++ [b]).getD j [] = ns.getD j [] := by rw [List.getD, List.getD, List.getElem?_append_left (by omega)]
    rw [e]
    exact hs1.wg hg
   ·have hj2 : j = vals.length := by
     have := (List.getElem?_eq_some_iff.1 hu).1
     rw [List.length_append, List.length_singleton] at this
     omega
    subst hj2
    rw [List.getElem?_append_right (Nat.le_refl _), Nat.sub_self] at hu
    simp at hu
    refine ⟨a, n, c, hu.symm, ?_⟩
    have e : (ns ++ [b]).getD vals.length [] = b := by rw [List.getD, hvl, List.getElem?_append_right (Nat.le_refl _), Nat.sub_self]; rfl
    rw [e]
    exact hs.wg hg
 ·rcases h2.2 with ⟨rfl, _⟩ | ⟨g, cap, cur, rfl, _⟩ <;> rfl
 ·rcases h2.2 with ⟨rfl, _⟩ | ⟨g, cap, cur, rfl, _⟩ <;> rfl
theorem Zdb {P : Program} {ρ : Operand -> Value} {w : World} {o : Oper} (t : TypeId) (parts : Array (Nat × Operand)) (l : List (Nat × Value)) (cells : Array Value) (ho : o.op = .build t parts) (hl : (parts.map fun (i, x) => (i, ρ x)).toList = l) (hf : P.built t l = some cells) : (execOp ρ o).run P w = .ok (.value (.agg cells)) w := by
 unfold execOp
 rw [ho]
 have := run_build (P := P) w t (parts.map fun (i, x) => (i, ρ x)) cells (by rw [hl]; exact hf)
 simp only [Sem.run_bind, this, Result.andThen_ok, Sem.run_pure]
theorem Zbn {y : NV} (h : y.c.d.length = 32) : y.cells.toArray.size = 38 := by rw [List.size_toArray, NV.len h]
theorem Zci {fn : Func} {p : Tmp} {f : Nat -> Value} (h : fn.results = #[.cell p 68]) (w : World) (g : Nat) (y : NV) (hl : y.c.d.length = 32) (hp : f p = .pointer (some ⟨g, 0, none⟩)) (hg : Rw g w y.cells.toArray 68) : (resF f fn.results).run Tryz.prog w = .ok (.agg y.cells.toArray) w := by
 have := run_loadVar_row (P := Tryz.prog) w g 68 68 _ _ _ hg Tryz.underlying68 rfl (by rw [Zc1, Zbn hl])
 unfold resF
 rw [h]
 simp [hp, this, asAddr]
theorem Sk.agk {K : Nat -> Prop} {w : World} {a : Option Addr} {n c : Nat} {bs : List Int} (h : Sk K w a n c bs) (hn : n <= 140737488351232) : AgK (fun _ => True) w a n c bs := ⟨h.ag, hn, fun _ _ _ _ => trivial⟩
def RNd (w : World) (gW base : Nat) (vN : Value) (X : Nat -> Prop) (ns : List (List Int)) (t : Tr) : Value -> World -> Prop := fun u w' => ∃ (y : NV) (vN' : Value), u = .agg y.cells.toArray /\ NodeAt (fun _ => True) w' y (nodeP t) /\ Wt w' gW base vN' X (ns ++ nmd t) /\ Wg w w' gW vN vN'
def REn (w : World) (gW base : Nat) (vN : Value) (X : Nat -> Prop) (ns : List (List Int)) (t : Tr) : Value -> World -> Prop := fun u w' => ∃ (a : Option Addr) (n c : Nat) (vN' : Value), u = .slice a n c /\ Sk (KW gW vN' (fun b => w.heap.size <= b)) w' a n c (encT t) /\ Wt w' gW base vN' X (ns ++ nmd t) /\ Wg w w' gW vN vN' /\ (encT t).length <= 65540
theorem Wt.mono {X Y : Nat -> Prop} {w : World} {gW base : Nat} {vN : Value} {ns : List (List Int)} (h : Wt w gW base vN X ns) (hX : ∀ b, b < w.heap.size -> X b -> Y b) : Wt w gW base vN Y ns := by
 obtain ⟨vals, h1, h2, h3⟩ := h.o
 refine ⟨h.r, ⟨vals, h1, h2, fun j v hj => ?_⟩, h.b⟩
 obtain ⟨a, n, c, e, hs⟩ := h3 j v hj
 exact ⟨a, n, c, e, hs.ag, fun x hx hn => by have hk := hs.k x hx hn; exact ⟨hk.1, hk.2.1, hX _ (hs.old hx hn) hk.2.2⟩⟩
theorem Sk.fresh {K : Nat -> Prop} {w v w' : World} {gW base : Nat} {X : Nat -> Prop} {vN : Value} {ns : List (List Int)} {a : Option Addr} {n c : Nat} {bs : List Int} (h : Sk (fun b => v.heap.size <= b) w' a n c bs) (hw : Wt v gW base vN X ns) (hs : w.heap.size <= v.heap.size) : Sk (KW gW vN (fun b => w.heap.size <= b)) w' a n c bs :=
 h.mono (fun b hb => ⟨fun e => by have := hw.lt.1; omega, fun e => by have := hw.lt.2 b e; omega, Nat.le_trans hs hb⟩)
theorem Zq3 {n : PN} (ho : okN n) : (NEP n).1.length <= 65540 := by
 unfold NEP
 split
 ·rename_i h; exact (Zkw ho h).2.2
 ·simp
theorem Zgc (w : World) : RefAt (fun _ => True) w rz r0 := ⟨rfl, rfl, fun x hx => by rw [List.mem_replicate.1 hx |>.2]; omega, rfl, ⟨.inl ⟨rfl, rfl⟩, fun _ => ⟨rfl, rfl⟩, rfl, fun x hx => by cases hx⟩, Nat.zero_le _, fun _ _ _ _ => trivial⟩
set_option maxHeartbeats 4000000 in
theorem Zre {w : World} {gW base : Nat} {vN : Value} {X : Nat -> Prop} {ns : List (List Int)} (hW : Wt w gW base vN X ns) {Z : Nat -> Prop} {a a' : Option Addr} {n c n' c' : Nat} {p x : List Int} (hp : Sk (KW gW vN Z) w a n c p) (hx : Sk (KW gW vN Z) w a' n' c' x) (hl1 : n <= 1000) (hl2 : n' <= 256) :
  Calls Tryz.prog 179 #[.agg #[.slice a n c, .slice a' n' c'], .pointer (some ⟨gW, 0, none⟩)] w fun e w' => ∃ u, e = .returned u /\ RNd w gW base vN X ns (leaf p x) u w' := by
 have hB := Bl.refl w
 refine Zaj Tryz.func179 rfl 10 rfl ?_
 show CW _ _ _ _ _ _ _ [(0, .agg #[.slice a n c, .slice a' n' c']), (1, .pointer (some ⟨gW, 0, none⟩))] _
 refine Zac <| Zaa <| Zax 2 (#[.slice a n c, .slice a' n' c']) 131 (fun _ => by kernel_rfl) (fun _ => by kernel_rfl) ?_
 intro w1 g2 hn3
 replace hB := hB.go hn3.below
 replace hp := hp.go hn3.below
 replace hx := hx.go hn3.below
 replace hW := hW.go hn3.below
 have hr4 : Rw g2 w1 (#[.slice a n c, .slice a' n' c']) 131 := hn3.row
 refine Zax 4 nz.cells.toArray 68 (fun _ => by kernel_rfl) (fun _ => by kernel_rfl) ?_
 intro wN gN hnN
 refine Zad <| Zab <| Zac <| Zaa <| rp 5 (.pointer (some ⟨g2, 0, none⟩)) <| rv 6 (.slice a n c) (fun _ => Zah 23 _ ⟨g2, 0, none⟩ _ _ rfl (by kernel_rfl) (by rw [cell_of_row _ _ _ _ _ _ (hr4.go hnN.below)]; rfl) Tryz.underlying23 rfl) <| rp 7 (.pointer (some ⟨g2, 1, none⟩)) <| rv 8 (.slice a' n' c') (fun _ => Zah 23 _ ⟨g2, 1, none⟩ _ _ rfl (by kernel_rfl) (by rw [cell_of_row _ _ _ _ _ _ (hr4.go hnN.below)]; rfl) Tryz.underlying23 rfl) <| rv 9 (.agg (NV.cells ⟨1, a, n, c, a', n', c', rz, none, 0, 0⟩).toArray) (fun _ => Zdb 68 _ [(0, .int .i64 1), (1, .slice a n c), (2, .slice a' n' c')] _ rfl (by kernel_rfl) (Zjx _ _ _ _ _ _)) <| Zbm gN (NV.cells ⟨1, a, n, c, a', n', c', rz, none, 0, 0⟩).toArray (fun _ => by kernel_rfl) (fun _ => Za3 68 _ _ _ _ _ _ rfl (by kernel_rfl) (by kernel_rfl) hnN.row (by kernel_rfl) (by kernel_rfl) (by kernel_rfl)) ?_
 intro wC hpC
 have hnC := hnN.put hpC
 replace hB := hB.go hnC.below
 replace hp := hp.go hnC.below
 replace hx := hx.go hnC.below
 replace hW := hW.go hnC.below
 have hrC : Rw gN wC (NV.cells ⟨1, a, n, c, a', n', c', rz, none, 0, 0⟩).toArray 68 := hnC.row
 refine Zad <| Zab <| Zap ?_
 have lp := hp.len
 have lx := hx.len
 exact Zae (.agg (NV.cells ⟨1, a, n, c, a', n', c', rz, none, 0, 0⟩).toArray) (fun _ => Zci Tryz.results179 _ gN ⟨1, a, n, c, a', n', c', rz, none, 0, 0⟩ rfl (by kernel_rfl) hrC) ⟨_, rfl, ⟨1, a, n, c, a', n', c', rz, none, 0, 0⟩, vN, rfl, ⟨rfl, hp.agk (by omega), hx.agk (by omega), Zgc _, ⟨rfl, Nat.le_refl _, Nat.zero_le _, Nat.zero_le _, fun _ => ⟨rfl, rfl⟩⟩, fun j r hr => by simp [nodeP] at hr⟩, (by rw [show nmd (leaf p x) = [] from rfl, List.append_nil]; exact hW), Wg.of_below hB⟩
set_option maxHeartbeats 4000000 in
theorem Zo7 {w : World} {gW base : Nat} {vN : Value} {X : Nat -> Prop} {ns : List (List Int)} {t : Tr} (hne : t ≠ no) {T0 : TypeId} {v0 : Value} (hm : MC "pergola/trie.node" (.iface T0 v0) #[.pointer (some ⟨gW, 0, none⟩)] w (RNd w gW base vN X ns t)) :
  Calls Tryz.prog 40 #[.pointer (some ⟨gW, 0, none⟩), .iface T0 v0] w fun e w' => ∃ u, e = .returned u /\ REn w gW base vN X ns t u w' := by
 have hB := Bl.refl w
 refine Zaj Tryz.func40 rfl 15 rfl ?_
 show CW _ _ _ _ _ _ _ [(0, .pointer (some ⟨gW, 0, none⟩)), (1, .iface T0 v0)] _
 refine Zac <| Zaa <| rp 4 (.slice none 0 0) <| Zad <| Zab <| Zac <| Zaa <| rp 8 (.iface T0 v0) <| rp 9 (.pointer (some ⟨gW, 0, none⟩)) ?_
 obtain ⟨T3, x4, f5, he6, hi1, hc2⟩ := hm
 refine Zao 10 f5 (#[x4] ++ #[.pointer (some ⟨gW, 0, none⟩)]) (fun _ => by kernel_rfl) (fun _ => hi1 _ _ _ _ _ _ _ rfl (by kernel_rfl) (by kernel_rfl)) (R := RNd w gW base vN X ns t) ?_ ?_
 ·exact hc2
 rintro _ u1 ⟨y, vM, rfl, hN, hW1, hG⟩
 refine Zao 11 55 #[.agg y.cells.toArray] (fun _ => by kernel_rfl) (fun _ => by kernel_rfl) (R := fun u w' => ∃ a m c, u = .tuple #[.slice a m c, .int .i64 ((NEP (nodeP t)).2 : Nat)] /\ Sk (fun b => u1.heap.size <= b) w' a m c (NEP (nodeP t)).1 /\ Bl u1 w') ((Zhb (fun _ => True) y (nodeP t) u1 hN).mono (fun e w' h => by obtain ⟨⟨a, m, c, e1, h1, h2⟩, h3⟩ := h; exact ⟨_, e1, a, m, c, rfl, ⟨h1, fun q hq hn => by rcases h1.i with ⟨q1, q2⟩ | ⟨gb, off, q1, _⟩; omega; rw [hq] at q1; cases q1; exact (h2 gb off hq hn).1⟩, h3⟩)) ?_
 rintro _ u2 ⟨a2, n2, c2, rfl, hs2, hb2⟩
 refine rp 7 (.tuple #[.slice a2 n2 c2, .int .i64 ((NEP (nodeP t)).2 : Nat)]) <| rp 12 (.slice a2 n2 c2) <| rp 13 (.int .i64 ((NEP (nodeP t)).2 : Nat)) <| rp 5 (.slice a2 n2 c2) <| rp 6 (.int .i64 ((NEP (nodeP t)).2 : Nat)) <| Zad <| Zab <| Zac <| Zaa <| rp 14 (.slice a2 n2 c2) <| rp 4 (.slice a2 n2 c2) <| Zad ?_
 refine Zab <| Zap ?_
 exact Zae (.slice a2 n2 c2) (fun _ => by kernel_rfl) ⟨_, rfl, a2, n2, c2, vM, rfl, (by rw [Ze9 hne]; exact hs2.fresh (K := fun _ => True) hW1 hG.size), hW1.go hb2, hG.trans (Wg.of_below hb2), (by rw [Ze9 hne]; exact Zq3 hN.okN)⟩
theorem Zbd {y : RV} (h : y.d.length = 32) : y.cells.toArray.size = 34 := by rw [List.size_toArray, RV.len h]
theorem Zcs (y : RV) : y.cells.toArray.all (·.oneCell') = true := all_oneCell_toArray (RV.one y)
theorem Zdo {fn : Func} {p : Tmp} {f : Nat -> Value} (h : fn.results = #[.cell p 65]) (w : World) (g : Nat) (y : RV) (hl : y.d.length = 32) (hp : f p = .pointer (some ⟨g, 0, none⟩)) (hg : Rw g w y.cells.toArray 65) : (resF f fn.results).run Tryz.prog w = .ok (.agg y.cells.toArray) w := by
 have := run_loadVar_row (P := Tryz.prog) w g 65 65 _ _ _ hg Tryz.underlying65 rfl (by rw [Zbx, Zbd hl])
 unfold resF
 rw [h]
 simp [hp, this, asAddr]
structure Rf (K : Nat -> Prop) (w : World) (y : RV) (r : PR) : Prop where
 at' : RefAt K w y r
theorem Rf.go {K : Nat -> Prop} {w w' : World} {y : RV} {r : PR} (h : Rf K w y r) (hb : Below w.heap.size w w') : Rf K w' y r := ⟨h.at'.go (Keep.below hb)⟩
theorem Rf.drew {K : Nat -> Prop} {w : World} {y : RV} {r : PR} (h : Rf K w y r) : Rf K w.drew y r := h.go (Below.refl _ _).drew
theorem Rf.wg {X : Nat -> Prop} {w w' : World} {gW : Nat} {vN vN' : Value} {y : RV} {r : PR} (h : Rf (KW gW vN X) w y r) (g : Wg w w' gW vN vN') : Rf (KW gW vN' X) w' y r := ⟨h.at'.go g.keep⟩
theorem Sk.put {K : Nat -> Prop} {w w' : World} {a : Option Addr} {n c : Nat} {bs : List Int} {g : Nat} {cells : Array Value} (h : Sk K w a n c bs) (hp : Put w w' g cells) (hK : ∀ b, K b -> b ≠ g) : Sk K w' a n c bs := by
 refine ⟨⟨?_, h.ag.nil, h.ag.l, h.ag.b⟩, h.k⟩
 rcases h.ag.i with h1 | ⟨gb, off, h1, h2, h3, h4, h5, h7⟩
 ·exact .inl h1
 ·exact .inr ⟨gb, off, h1, h2, h3, h4, h5, fun j hj => (World.cell?_of_block (show w'.heap[gb]? = w.heap[gb]? from hp.other (hK gb (h.k _ h1 h3)))).trans (h7 j hj)⟩
theorem Rf.put {K : Nat -> Prop} {w w' : World} {y : RV} {r : PR} {g : Nat} {cells : Array Value} (h : Rf K w y r) (hp : Put w w' g cells) (hK : ∀ b, K b -> b ≠ g) : Rf K w' y r := ⟨h.at'.go (fun b hb _ => ⟨hp.other (hK b hb), hb⟩)⟩
theorem Rf.mono {K K' : Nat -> Prop} {w : World} {y : RV} {r : PR} (h : Rf K w y r) (hK : ∀ b, K b -> K' b) : Rf K' w y r := ⟨h.at'.go (fun b hb _ => ⟨rfl, hK b hb⟩)⟩
theorem Wt.drew {w : World} {gW base : Nat} {X : Nat -> Prop} {vN : Value} {ns : List (List Int)} (h : Wt w gW base vN X ns) : Wt w.drew gW base vN X ns := h.go (Below.refl _ _).drew
theorem Wt.put {X : Nat -> Prop} {w w' : World} {gW base g : Nat} {vN : Value} {ns : List (List Int)} {cells old : Array Value} {T : TypeId} (h : Wt w gW base vN X ns) (hr : Rw g w old T) (h1 : T ≠ 23) (h2 : T ≠ 80) (hX : ∀ b, X b -> b ≠ g) (hp : Put w w' g cells) : Wt w' gW base vN X ns := by
 obtain ⟨vals, ⟨q1, ho⟩, hv⟩ := h.o
 have hne : gW ≠ g := by
  rintro rfl
  have := h.r
  rw [Rw, hr] at this
  simp at this
  exact h2 this.2
 refine ⟨(hp.other hne).trans h.r, ⟨vals, ⟨q1, ?_⟩, hv.1, fun j u hu => ?_⟩, h.b⟩
 case refine_2 =>
  obtain ⟨a, n, c, e, hs⟩ := hv.2 j u hu
  exact ⟨a, n, c, e, hs.put hp (fun b hb => hX b hb.2.2)⟩
 rcases ho with q | ⟨g', cap, cur, e1, e2, e3, e4⟩
 ·exact .inl q
 ·refine .inr ⟨g', cap, cur, e1, e2, (hp.other ?_).trans e3, e4⟩
  rintro rfl
  rw [hr] at e3
  simp at e3
  exact h1 e3.2
theorem Wg.put {w v v' : World} {gW g : Nat} {vN vN' : Value} {cells : Array Value} (h : Wg w v gW vN vN') (hp : Put v v' g cells) (hg : w.heap.size <= g) : Wg w v' gW vN vN' := by
 have ht := hp.touch
 exact ⟨ht.os.trans h.os, ht.tape.trans h.tape, ht.output.trans h.output, Nat.le_trans h.size ht.size, fun k hk h1 h2 => (hp.other (by omega)).trans (h.block k hk h1 h2), h.own⟩
def RRf (w : World) (gW base : Nat) (vN : Value) (X : Nat -> Prop) (ns : List (List Int)) (t : Tr) : Value -> World -> Prop := fun u w' => ∃ (y : RV) (vN' : Value), u = .agg y.cells.toArray /\ Rf (KW gW vN' (fun b => w.heap.size < b)) w' y (referP (encT t)) /\ Wt w' gW base vN' X (ns ++ (nmd t ++ nm1 (encT t))) /\ Wg w w' gW vN vN'
theorem Zes (b : List Int) : (referP b).k = if b.length < 32 then 1 else 2 := by unfold referP; split <;> rfl
set_option maxHeartbeats 4000000 in
theorem Zj3 {w : World} {gW base : Nat} {vN : Value} {X : Nat -> Prop} {ns : List (List Int)} (hW : Wt w gW base vN X ns) {t : Tr} {T0 : TypeId} {v0 : Value} (hX : ∀ b, w.heap.size <= b -> X b) (hE : ∀ v, Bl w v -> ∀ Y : Nat -> Prop, Wt v gW base vN Y ns -> (∀ b, v.heap.size <= b -> Y b) -> Calls Tryz.prog 40 #[.pointer (some ⟨gW, 0, none⟩), .iface T0 v0] v fun e w' => ∃ u, e = .returned u /\ REn v gW base vN Y ns t u w') (hM : (ns ++ nmd t).length + 1 <= 8800000000000) (hsh : (encT t).length < 32) :
  Calls Tryz.prog 194 #[.pointer (some ⟨gW, 0, none⟩), .iface T0 v0] w fun e w' => ∃ u, e = .returned u /\ RRf w gW base vN X ns t u w' := by
 have hB := Bl.refl w
 have hW0 := hW
 refine Zaj Tryz.func194 rfl 26 rfl ?_
 show CW _ _ _ _ _ _ _ [(0, .pointer (some ⟨gW, 0, none⟩)), (1, .iface T0 v0)] _
 refine Zac <| Zaa <| Zax 4 rz.cells.toArray 65 (fun _ => by kernel_rfl) (fun _ => by kernel_rfl) ?_
 intro w1 gR hnR
 replace hB := hB.go hnR.below
 replace hW := hW.go hnR.below
 have hrR : Rw gR w1 rz.cells.toArray 65 := hnR.row
 have hgR := hnR.hg
 have hsR := hnR.size
 have hWX : Wt w1 gW base vN (fun b => X b /\ b ≠ gR) ns := (hW0.mono (Y := fun b => X b /\ b ≠ gR) (fun b hb hx => ⟨hx, by omega⟩)).go hnR.below
 refine Zad <| Zab <| Zac <| Zaa <| rp 7 (.pointer (some ⟨gW, 0, none⟩)) <| rp 8 (.iface T0 v0) <| Zao 9 40 #[.pointer (some ⟨gW, 0, none⟩), .iface T0 v0] (fun _ => by kernel_rfl) (fun _ => by kernel_rfl) (R := REn w1 gW base vN (fun b => X b /\ b ≠ gR) ns t) (hE w1 hB (fun b => X b /\ b ≠ gR) hWX (fun b hb => ⟨hX b (by omega), by omega⟩)) ?_
 rintro _ u1 ⟨a2, n2, c2, vM, rfl, hs2, hW1, hG, hen⟩
 replace hrR := hrR.wg hG hW (by decide) (by decide)
 have hGt := (Wg.of_below hB).trans hG
 clear hW hB
 have hz1 := hG.size
 have ln2 := hs2.len
 refine rp 5 (.slice a2 n2 c2) <| Zad <| Zab <| Zac <| Zaa <| rp 10 (.slice a2 n2 c2) <| Zao 11 118 #[.slice a2 n2 c2] (fun _ => by kernel_rfl) (fun _ => by kernel_rfl) (R := fun u w' => ∃ y : RV, u = .agg y.cells.toArray /\ Rf (fun b => u1.heap.size <= b) w' y (referP (encT t)) /\ Bl u1 w') ((Zdp a2 n2 c2 (encT t) u1 hs2.ag (by omega)).mono (fun e w' h => by obtain ⟨⟨y, e1, h1⟩, h2⟩ := h; exact ⟨_, e1, y, rfl, ⟨h1.go (fun b hb _ => ⟨rfl, hb.1⟩)⟩, h2⟩)) ?_
 rintro _ u2 ⟨y, rfl, hRf, hb2⟩
 have hltW := hW1.lt
 replace hrR := hrR.go hb2
 replace hGt := hGt.go hb2
 replace hW1 := hW1.go hb2
 replace hs2 := hs2.go hb2
 replace hRf : Rf (KW gW vM (fun b => w.heap.size < b)) u2 y (referP (encT t)) := hRf.mono (fun b hb => ⟨fun e => by have := hltW.1; omega, fun e => by have := hltW.2 b e; omega, by omega⟩)
 have hyl := hRf.at'.len
 have hyk : y.k = 1 := by rw [hRf.at'.1, Zes, if_pos hsh]
 refine Zax 6 rz.cells.toArray 65 (fun _ => by kernel_rfl) (fun _ => by kernel_rfl) ?_
 intro wA g6 hnA
 refine Zbm g6 y.cells.toArray (fun _ => by kernel_rfl) (fun _ => Za3 65 _ _ _ _ _ _ rfl (by kernel_rfl) (by kernel_rfl) hnA.row (by rw [Zbx, Zbd hyl]) (by rw [Zbd hyl]; rfl) (Zcs y)) ?_
 intro wC hpC
 have hnC := hnA.put hpC
 replace hrR := hrR.go hnC.below
 replace hGt := hGt.go hnC.below
 replace hW1 := hW1.go hnC.below
 replace hs2 := hs2.go hnC.below
 replace hRf := hRf.go hnC.below
 have hr6 : Rw g6 wC y.cells.toArray 65 := hnC.row
 refine Zad <| Zab <| Zac <| Zac <| Zaa <| rp 12 (.pointer (some ⟨g6, 0, none⟩)) <| rv 13 (.int .i64 1) (fun _ => Zah 3 _ ⟨g6, 0, none⟩ _ _ rfl (by kernel_rfl) (by rw [cell_of_row _ _ _ _ _ _ hr6, <- hyk]; rfl) Tryz.underlying3 rfl) <| rp 14 (.bool false) <| Zad <| Zab <| Zai (fun _ => by kernel_rfl) <| Zan ?_
 refine Zab <| Zac <| Zaa <| rv 25 (.agg y.cells.toArray) (fun _ => Zb8 65 _ _ _ _ _ _ rfl (by kernel_rfl) hr6 Tryz.underlying65 rfl (by rw [Zbx, Zbd hyl])) <| Zbm gR y.cells.toArray (fun _ => by kernel_rfl) (fun _ => Za3 65 _ _ _ _ _ _ rfl (by kernel_rfl) (by kernel_rfl) hrR (by rw [Zbx, Zbd hyl]) (by rw [Zbd hyl]; rfl) (Zcs y)) ?_
 intro wE hpE
 have hrE : Rw gR wE y.cells.toArray 65 := hpE.row hrR
 have hRE := hRf.put hpE (fun b hb => by have := hb.2.2; omega)
 have hWE := (hW1.put hrR (by decide) (by decide) (fun b hb => hb.2) hpE).mono (fun b _ hb => hb.1)
 have hGE := hGt.put hpE (by omega)
 refine Zad <| Zab <| Zap ?_
 exact Zae (.agg y.cells.toArray) (fun _ => Zdo Tryz.results194 _ gR y hyl (by kernel_rfl) hrE) ⟨_, rfl, y, vM, rfl, hRE, (by rw [show nm1 (encT t) = [] from by unfold nm1; rw [if_pos hsh], List.append_nil]; exact hWE), hGE⟩
set_option maxHeartbeats 4000000 in
theorem Zlj {w : World} {gW base : Nat} {vN : Value} {X : Nat -> Prop} {ns : List (List Int)} (hW : Wt w gW base vN X ns) {t : Tr} {T0 : TypeId} {v0 : Value} (hX : ∀ b, w.heap.size <= b -> X b) (hE : ∀ v, Bl w v -> ∀ Y : Nat -> Prop, Wt v gW base vN Y ns -> (∀ b, v.heap.size <= b -> Y b) -> Calls Tryz.prog 40 #[.pointer (some ⟨gW, 0, none⟩), .iface T0 v0] v fun e w' => ∃ u, e = .returned u /\ REn v gW base vN Y ns t u w') (hM : (ns ++ nmd t).length + 1 <= 8800000000000) (hsh : ¬ (encT t).length < 32) :
  Calls Tryz.prog 194 #[.pointer (some ⟨gW, 0, none⟩), .iface T0 v0] w fun e w' => ∃ u, e = .returned u /\ RRf w gW base vN X ns t u w' := by
 have hB := Bl.refl w
 have hW0 := hW
 refine Zaj Tryz.func194 rfl 26 rfl ?_
 show CW _ _ _ _ _ _ _ [(0, .pointer (some ⟨gW, 0, none⟩)), (1, .iface T0 v0)] _
 refine Zac <| Zaa <| Zax 4 rz.cells.toArray 65 (fun _ => by kernel_rfl) (fun _ => by kernel_rfl) ?_
 intro w1 gR hnR
 replace hB := hB.go hnR.below
 replace hW := hW.go hnR.below
 have hrR : Rw gR w1 rz.cells.toArray 65 := hnR.row
 have hgR := hnR.hg
 have hsR := hnR.size
 have hWX : Wt w1 gW base vN (fun b => X b /\ b ≠ gR) ns := (hW0.mono (Y := fun b => X b /\ b ≠ gR) (fun b hb hx => ⟨hx, by omega⟩)).go hnR.below
 refine Zad <| Zab <| Zac <| Zaa <| rp 7 (.pointer (some ⟨gW, 0, none⟩)) <| rp 8 (.iface T0 v0) <| Zao 9 40 #[.pointer (some ⟨gW, 0, none⟩), .iface T0 v0] (fun _ => by kernel_rfl) (fun _ => by kernel_rfl) (R := REn w1 gW base vN (fun b => X b /\ b ≠ gR) ns t) (hE w1 hB (fun b => X b /\ b ≠ gR) hWX (fun b hb => ⟨hX b (by omega), by omega⟩)) ?_
 rintro _ u1 ⟨a2, n2, c2, vM, rfl, hs2, hW1, hG, hen⟩
 replace hrR := hrR.wg hG hW (by decide) (by decide)
 have hGt := (Wg.of_below hB).trans hG
 clear hW hB
 have hz1 := hG.size
 have ln2 := hs2.len
 refine rp 5 (.slice a2 n2 c2) <| Zad <| Zab <| Zac <| Zaa <| rp 10 (.slice a2 n2 c2) <| Zao 11 118 #[.slice a2 n2 c2] (fun _ => by kernel_rfl) (fun _ => by kernel_rfl) (R := fun u w' => ∃ y : RV, u = .agg y.cells.toArray /\ Rf (fun b => u1.heap.size <= b) w' y (referP (encT t)) /\ Bl u1 w') ((Zdp a2 n2 c2 (encT t) u1 hs2.ag (by omega)).mono (fun e w' h => by obtain ⟨⟨y, e1, h1⟩, h2⟩ := h; exact ⟨_, e1, y, rfl, ⟨h1.go (fun b hb _ => ⟨rfl, hb.1⟩)⟩, h2⟩)) ?_
 rintro _ u2 ⟨y, rfl, hRf, hb2⟩
 have hltW := hW1.lt
 replace hrR := hrR.go hb2
 replace hGt := hGt.go hb2
 replace hW1 := hW1.go hb2
 replace hs2 := hs2.go hb2
 replace hRf : Rf (KW gW vM (fun b => w.heap.size < b)) u2 y (referP (encT t)) := hRf.mono (fun b hb => ⟨fun e => by have := hltW.1; omega, fun e => by have := hltW.2 b e; omega, by omega⟩)
 have hyl := hRf.at'.len
 have hyk : y.k = 2 := by rw [hRf.at'.1, Zes, if_neg hsh]
 refine Zax 6 rz.cells.toArray 65 (fun _ => by kernel_rfl) (fun _ => by kernel_rfl) ?_
 intro wA g6 hnA
 refine Zbm g6 y.cells.toArray (fun _ => by kernel_rfl) (fun _ => Za3 65 _ _ _ _ _ _ rfl (by kernel_rfl) (by kernel_rfl) hnA.row (by rw [Zbx, Zbd hyl]) (by rw [Zbd hyl]; rfl) (Zcs y)) ?_
 intro wC hpC
 have hnC := hnA.put hpC
 replace hrR := hrR.go hnC.below
 replace hGt := hGt.go hnC.below
 replace hW1 := hW1.go hnC.below
 replace hs2 := hs2.go hnC.below
 replace hRf := hRf.go hnC.below
 have hr6 : Rw g6 wC y.cells.toArray 65 := hnC.row
 refine Zad <| Zab <| Zac <| Zac <| Zaa <| rp 12 (.pointer (some ⟨g6, 0, none⟩)) <| rv 13 (.int .i64 2) (fun _ => Zah 3 _ ⟨g6, 0, none⟩ _ _ rfl (by kernel_rfl) (by rw [cell_of_row _ _ _ _ _ _ hr6, <- hyk]; rfl) Tryz.underlying3 rfl) <| rp 14 (.bool true) <| Zad <| Zab <| Zak (fun _ => by kernel_rfl) <| Zaa ?_
 refine rp 15 (.pointer (some ⟨gW, 0, none⟩)) <| rp 16 (.pointer (some ⟨gW, 0, none⟩)) <| rp 17 (.pointer (some ⟨gW, 0, none⟩)) <| rp 18 (.pointer (some ⟨gW, 0, none⟩)) <| rv 19 (vM) (fun _ => Zah 28 _ ⟨gW, 0, none⟩ _ _ rfl (by kernel_rfl) (by rw [cell_of_row _ _ _ _ _ _ hW1.r]; rfl) Tryz.underlying28 rfl) <| rp 20 (.slice a2 n2 c2) <| Zbi 21 #[.slice a2 n2 c2] 23 1 (fun _ => by kernel_rfl) (fun _ => by kernel_rfl) ?_
 intro wL gL hnL
 replace hrR := hrR.go hnL.below
 replace hGt := hGt.go hnL.below
 replace hW1 := hW1.go hnL.below
 replace hs2 := hs2.go hnL.below
 replace hRf := hRf.go hnL.below
 replace hr6 := hr6.go hnL.below
 have hLr : Rw gL wL #[.slice a2 n2 c2] 23 := hnL.row
 obtain ⟨vP, wP, hrP, hNA, hrW, hvc, hv1⟩ := Zq9 hW1 (hs2.mono (K' := KW gW vM (fun b => X b /\ b ≠ gR)) (fun b hb => ⟨hb.1, hb.2.1, hX b (by have := hb.2.2; omega), by have := hb.2.2; omega⟩)) hLr (by simp only [List.length_append] at hM ⊢; omega)
 refine rw_v 22 vP (fun _ => by kernel_rfl) (fun _ => Zec hrP _ _ rfl (by kernel_rfl) (by kernel_rfl)) <| rp 23 (.pointer (some ⟨gW, 0, none⟩)) <| rp 24 (.pointer (some ⟨gW, 0, none⟩)) <| Ziz gW 0 vP (fun _ => by kernel_rfl) (fun _ => Zbo 28 _ _ gW 0 _ 80 _ hrW rfl (by kernel_rfl) (by kernel_rfl) (by show 0 < 1; omega) hvc hv1 (by kernel_rfl)) ?_
 intro wD hpD
 obtain ⟨hW2, hG2⟩ := hNA wD hpD
 replace hrR := hrR.wg hG2 hW1 (by decide) (by decide)
 replace hr6 := hr6.wg hG2 hW1 (by decide) (by decide)
 replace hRf := hRf.wg hG2
 replace hGt := hGt.trans hG2
 clear hW1 hs2
 have hW1 := hW2
 refine Zad <| Zab <| Zac <| Zaa <| rv 25 (.agg y.cells.toArray) (fun _ => Zb8 65 _ _ _ _ _ _ rfl (by kernel_rfl) hr6 Tryz.underlying65 rfl (by rw [Zbx, Zbd hyl])) <| Zbm gR y.cells.toArray (fun _ => by kernel_rfl) (fun _ => Za3 65 _ _ _ _ _ _ rfl (by kernel_rfl) (by kernel_rfl) hrR (by rw [Zbx, Zbd hyl]) (by rw [Zbd hyl]; rfl) (Zcs y)) ?_
 intro wE hpE
 have hrE : Rw gR wE y.cells.toArray 65 := hpE.row hrR
 have hRE := hRf.put hpE (fun b hb => by have := hb.2.2; omega)
 have hWE := (hW1.put hrR (by decide) (by decide) (fun b hb => hb.2) hpE).mono (fun b _ hb => hb.1)
 have hGE := hGt.put hpE (by omega)
 refine Zad <| Zab <| Zap ?_
 exact Zae (.agg y.cells.toArray) (fun _ => Zdo Tryz.results194 _ gR y hyl (by kernel_rfl) hrE) ⟨_, rfl, y, vP, rfl, hRE, (by rw [show nm1 (encT t) = [encT t] from by unfold nm1; rw [if_neg hsh], <- List.append_assoc]; exact hWE), hGE⟩
end Go.Proofs.YtefhepcplempkaaGreat

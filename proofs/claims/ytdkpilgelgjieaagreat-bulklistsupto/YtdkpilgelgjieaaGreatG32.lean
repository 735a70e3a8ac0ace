/- A way in memory: a fork more, a kid more, paths cut on both sides. -/
import Derived.Test.YtdkpilgelgjieaaGreatG31
import Derived.Test.YtdkpilgelgjieaaGreatG19
import Derived.Great.BuildSlice
import Derived.Great.FillDense
import Derived.Test.YtdkpilgelgjieaaGreatG00
import Derived.Test.YtdkpilgelgjieaaGreatG03
import Derived.Laws.MakeOwn
import Derived.Laws.IdiomCopy
set_option linter.unusedVariables false
set_option maxRecDepth 100000
namespace Go.Proofs.YtdkpilgelgjieaaGreat
open Go.RowKit
open Tr
theorem Sk.short {K : Nat -> Prop} {w : World} {a : Option Addr} {n c : Nat} {bs : List Int} (h : Sk K w a n c bs) (f : Nat) (hf : f <= n) : Sk K w a f c (bs.take f) := by
 have q := h.upto f hf
 have e : (if c = 0 then a else a.map (·.add (0 * 1))) = a := by
  split
  ·rfl
  ·cases a with
   | none => rfl
   | some x => obtain ⟨b, o, s⟩ := x; cases s <;> simp [Addr.add]
 rw [e] at q
 exact q
theorem Sk.cut2 {K : Nat -> Prop} {w : World} {a : Option Addr} {n c : Nat} {bs : List Int} (h : Sk K w a n c bs) (l u : Nat) (hl : l <= u) (hu : u <= n) :
  ∃ a' n' c', (∀ (v : World) (ρ : Operand -> Value) (o : Oper) (x y z : Operand) (i k : Int), o.op = .slice 32 x (some y) (some z) none -> ρ x = .slice a n c -> ρ y = .int .i64 i -> ρ z = .int .i64 k -> i = l -> k = u -> (execOp ρ o).run Tryz.prog v = .ok (.value (.slice a' n' c')) v) /\ Sk K w a' n' c' (seg bs l u) /\ n' = u - l := by
 have hnc : n <= c := by
  rcases h.ag.i with ⟨q, _⟩ | ⟨_, _, _, _, _, q, _, _⟩
  ·omega
  ·exact q
 refine ⟨_, _, _, ?_, (h.short u hu).from l hl, rfl⟩
 intro v ρ o x y z i k ho hx hy hz hi hk
 subst hi hk
 have h1 : u <= c := by omega
 unfold execOp
 rw [ho]
 simp [hx, hy, hz, Instr.sliceAt, run_underlying Tryz.underlying32, Instr.slice, Instr.sliceBounds, Instr.sliceBound, asIntOf, hl, h1, Result.andThen]
theorem Zxr {ρ : Operand -> Value} {w : World} {o : Oper} {x y : Operand} {g n c f : Nat} (ho : o.op = .slice 52 x none (some y) none) (hx : ρ x = .slice (some ⟨g, 0, none⟩) n c) (hy : ρ y = .int .i64 ((f : Nat) : Int)) (hf : f <= c) : (execOp ρ o).run Tryz.prog w = .ok (.value (.slice (some ⟨g, 0, none⟩) f c)) w := by
 unfold execOp
 rw [ho]
 simp [hx, hy, Instr.sliceAt, run_underlying Tryz.underlying52, Instr.slice, Instr.sliceBounds, Instr.sliceBound, asIntOf, hf, Zax, Result.andThen]
theorem Zr6 {ρ : Operand -> Value} {w : World} {o : Oper} (x z : Operand) {g off : Nat} {y : RV} (h : w.there g off 34) (hy : y.d.length = 32) (ho : o.op = .store 60 x z) (hx : ρ x = .pointer (some ⟨g, off, none⟩)) (hz : ρ z = .agg y.cells.toArray) :
  (execOp ρ o).run Tryz.prog w = .ok .skip (w.setCells g off y.cells) := by
 have := run_storeAt_mid (P := Tryz.prog) w g off 60 y.cells.toArray (by rw [Zoj hy]; exact h) (by rw [Zix, Zoj hy]) (Zwc y)
 unfold execOp
 simp only [ho, hx, hz, Sem.run_bind, this, Result.andThen_ok, Sem.run_pure]
theorem Way.there {X : Nat -> Prop} {w : World} {g cap : Nat} {x : FV} {r : List FV} {fs : List Fk} (h : Way X w g cap (x :: r) fs) {i : Nat} (hi : i < 16) : w.there g (0 + r.length * 546 + 1 + i * 34) 34 := by
 obtain ⟨cur, h1, h2⟩ := h.row
 have hnc := h.nc
 rw [List.length_cons] at hnc
 have hle : (r.length + 1) * 546 <= cap * 546 := Nat.mul_le_mul_right _ hnc
 intro m hm
 refine ⟨?_, frozen_of_row _ _ _ _ _ h1⟩
 rw [cell_of_row _ _ _ _ _ _ h1, Array.getElem?_eq_getElem (by omega)]
 rfl
theorem Zsu {ys : Nat -> RV} (h : ∀ i, (ys i).d.length = 32) : ∀ n m v, (kc ys n)[m]? = some v -> m / 34 < n /\ (ys (m / 34)).cells[m % 34]? = some v
 | 0, m, v, hv => by simp [kc] at hv
 | n + 1, m, v, hv => by
  rw [kc] at hv
  by_cases e : m < (kc ys n).length
  ·rw [List.getElem?_append_left e] at hv
   have := Zsu h n m v hv
   exact ⟨by omega, this.2⟩
  ·rw [List.getElem?_append_right (by omega)] at hv
   have hl := Ze1 h n
   have hm : m - (kc ys n).length < 34 := by have := (List.getElem?_eq_some_iff.1 hv).1; rw [RV.len (h n)] at this; exact this
   have e1 : m / 34 = n := by omega
   have e2 : m % 34 = m - (kc ys n).length := by omega
   exact ⟨by omega, by rw [e1, e2]; exact hv⟩
theorem Zxh {w : World} {g o : Nat} {x : FV} (hx : x.Ok) (h : w.rangeAt g o x.cells) {i : Nat} (hi : i < 16) {y : RV} (hy : y.d.length = 32) (ht : w.there g (o + 1 + i * 34) 34) :
  (w.setCells g (o + 1 + i * 34) y.cells).rangeAt g o (FV.cells ⟨x.d, updR x.ys i y, x.a, x.n, x.c⟩) := by
 have hu : ∀ j, (updR x.ys i y j).d.length = 32 := fun j => by unfold updR; split; exact hy; exact hx j
 have hap : ∀ (p : Nat) (v : Value), w.cell? ⟨g, p, none⟩ = some v -> (p < o + 1 + i * 34 \/ o + 1 + i * 34 + 34 <= p) -> (w.setCells g (o + 1 + i * 34) y.cells).cell? ⟨g, p, none⟩ = some v := by
  intro p v hv hp
  have hr : w.rangeAt g p [v] := fun m u hu => by
   cases m with
   | zero => simp at hu; subst hu; exact hv
   | succ m => simp at hu
  exact World.rangeAt_setCells_apart hr g (o + 1 + i * 34) y.cells (.inr (by rw [RV.len hy]; simp only [List.length_singleton]; omega)) 0 v rfl
 have hsame := World.rangeAt_setCells_same w g (o + 1 + i * 34) y.cells (by rw [RV.len hy]; exact ht)
 intro m v hv0
 have hv : (Value.int .i64 ((x.d : Nat) : Int) :: (kc (updR x.ys i y) 16 ++ [.slice x.a x.n x.c]))[m]? = some v := hv0
 clear hv0
 cases m with
 | zero => simp at hv; subst hv; exact hap _ _ (h 0 _ rfl) (.inl (by omega))
 | succ m =>
  rw [List.getElem?_cons_succ] at hv
  have hkl := Ze1 hu 16
  by_cases e : m < (kc (updR x.ys i y) 16).length
  ·rw [List.getElem?_append_left e] at hv
   obtain ⟨q1, q2⟩ := Zsu hu 16 m v hv
   by_cases ei : m / 34 = i
   ·rw [show updR x.ys i y (m / 34) = y from by unfold updR; rw [if_pos ei]] at q2
    have := hsame _ v q2
    rw [show o + 1 + i * 34 + m % 34 = o + (m + 1) from by omega] at this
    exact this
   ·rw [show updR x.ys i y (m / 34) = x.ys (m / 34) from by unfold updR; rw [if_neg ei]] at q2
    have := Zz0 hx h q1 _ v q2
    rw [show o + 1 + m / 34 * 34 + m % 34 = o + (m + 1) from by omega] at this
    refine hap _ _ this ?_
    omega
  ·rw [List.getElem?_append_right (by omega), hkl] at hv
   have hm0 : m - 544 = 0 := by have := (List.getElem?_eq_some_iff.1 hv).1; simp at this; omega
   rw [show m - 16 * 34 = 0 from by omega] at hv
   simp at hv; subst hv
   have := Zye hx h
   rw [show o + 545 = o + (m + 1) from by omega] at this
   exact hap _ _ this (.inr (by omega))
theorem WyR.set {w : World} {g o : Nat} {vs : List Value} (r : List FV) : (∀ x ∈ r, x.Ok) -> WyR w g r -> r.length * 546 <= o -> WyR (w.setCells g o vs) g r := by
 induction r with
 | nil => intro _ _ _; exact trivial
 | cons x r ih =>
  intro hx h ho
  rw [List.length_cons] at ho
  have hl := FV.len (hx x (by simp))
  have h1 : (w.setCells g o vs).rangeAt g (r.length * 546) x.cells := World.rangeAt_setCells_apart h.1 g o vs (.inr (by rw [hl]; omega))
  exact And.intro h1 (ih (fun y hy => hx y (List.mem_cons_of_mem _ hy)) h.2 (by omega))
theorem Way.set {X : Nat -> Prop} {w : World} {g cap : Nat} {x : FV} {r : List FV} {f : Fk} {s : List Fk} (h : Way X w g cap (x :: r) (f :: s)) {i : Nat} (hi : i < 16) {y : RV} {t : Tr} (hy : RefAt (fun b => b ≠ g /\ X b) w y (referP (encT t))) (ht : t ≠ no) :
  Way X (w.setCells g (0 + r.length * 546 + 1 + i * 34) y.cells) g cap (⟨x.d, updR x.ys i y, x.a, x.n, x.c⟩ :: r) (⟨f.d, upd f.k i t, f.v⟩ :: s) := by
 have hst := St.of w g (0 + r.length * 546 + 1 + i * 34) y.cells
 have hyl := hy.len
 have hth := h.there hi
 obtain ⟨cur, h1, h2⟩ := h.row
 obtain ⟨cur', h3, h4⟩ := Zv6 g 63 y.cells (0 + r.length * 546 + 1 + i * 34) w cur h1
 have hk : Keep (fun b => b ≠ g /\ X b) (fun b => b ≠ g /\ X b) w (w.setCells g (0 + r.length * 546 + 1 + i * 34) y.cells) := fun b hb _ => ⟨hst.other b hb.1, hb⟩
 have hxk := h.at'.1
 refine ⟨⟨cur', h3, h4.trans h2⟩, h.nc, h.cm, ⟨?_, WyR.set r h.at'.2.oks h.y.2 (by omega)⟩, ⟨⟨hxk.d, fun j => ?_, fun j hj => ?_, hxk.v.keep hk, hxk.m⟩, h.at'.2.keep hk⟩⟩
 ·have := Zxh hxk.l (o := 0 + r.length * 546) (by rw [Nat.zero_add]; exact h.y.1) hi hyl hth
  rw [Nat.zero_add] at this ⊢
  exact this
 ·show (updR x.ys i y j).d.length = 32
  unfold updR; split
  ·exact hyl
  ·exact hxk.l j
 ·show RefAt _ _ (updR x.ys i y j) (rP (upd f.k i t) j)
  by_cases e : j = i
  ·subst e
   rw [show updR x.ys j y j = y from by simp [updR], show rP (upd f.k j t) j = referP (encT t) from by unfold rP; rw [Zau, if_neg (fun e => ht (isNo_iff.1 e))]]
   exact hy.go hk
  ·rw [show updR x.ys i y j = x.ys j from by simp [updR, e], show rP (upd f.k i t) j = rP f.k j from by unfold rP; rw [Zav _ _ e]]
   exact (hxk.k j hj).go hk
def WayV (X : Nat -> Prop) (w : World) (base : Nat) (v : Value) (rs : List FV) (fs : List Fk) : Prop := (v = .slice none 0 0 /\ rs = [] /\ fs = []) \/ ∃ g cap, v = .slice (some ⟨g, 0, none⟩) rs.length cap /\ base <= g /\ Way X w g cap rs fs
theorem WayV.owns {X : Nat -> Prop} {w : World} {base : Nat} {v : Value} {rs : List FV} {fs : List Fk} (h : WayV X w base v rs fs) : w.ownsRow base 63 546 v rs.length (flatF rs) := by
 rcases h with ⟨rfl, rfl, rfl⟩ | ⟨g, cap, rfl, hb, hw⟩
 ·exact ⟨rfl, .inl ⟨rfl, rfl⟩⟩
 ·exact hw.owns hb
theorem WayV.ats {X : Nat -> Prop} {w : World} {base : Nat} {v : Value} {rs : List FV} {fs : List Fk} (h : WayV X w base v rs fs) : FksAt (fun b => KF v b /\ X b) w rs fs := by
 rcases h with ⟨rfl, rfl, rfl⟩ | ⟨g, cap, rfl, hb, hw⟩
 ·trivial
 ·exact hw.at'.keep (fun b hb _ => ⟨rfl, fun e => hb.1 (by simpa [Value.ownBlock] using e.symm), hb.2⟩)
theorem appW {X : Nat -> Prop} {w : World} {base : Nat} {v : Value} {rs : List FV} {fs : List Fk} (h : WayV X w base v rs fs) {gP : Nat} {N : FV} {f : Fk} (hr : w.rangeAt gP 0 N.cells) (hN : FkAt (fun b => KF v b /\ X b) w N f) (hlen : rs.length + 1 <= 1000) (hbase : base <= w.heap.size) :
  ∃ g' cap' w', (∀ ty, (Builtin.append_ #[52, 52] ty #[v, .slice (some ⟨gP, 0, none⟩) 1 1]).run Tryz.prog w = .ok (.slice (some ⟨g', 0, none⟩) (rs.length + 1) cap') w') /\ Way X w' g' cap' (N :: rs) (f :: fs) /\ base <= g' /\ Fg w w' v (.slice (some ⟨g', 0, none⟩) (rs.length + 1) cap') := by
 obtain ⟨i, hi, hz, hsz, hby⟩ := Zo0
 have hown := h.owns
 have hats := h.ats
 obtain ⟨v', w', r1, r2, r3, _, r5⟩ := run_append_own_at w base 52 0 63 i _ 546 1056 Tryz.underlying52 hi hz hsz hby (Zgy (x := ⟨0, fun _ => rz, none, 0, 0⟩) (fun _ => rfl)) (by decide) v rs.length (flatF rs) hown ⟨gP, 0, none⟩ 1 1 N.cells (by rw [FV.len hN.l]) (fun j u hj => by rw [Zax]; exact hr j u hj) (FV.one N) (by unfold maxLen; omega) (by omega) hbase
 rcases r2.2 with ⟨_, q⟩ | ⟨g', cap', cur, rfl, hbg, hg, hc1, hc2, hc3, hc4⟩
 ·omega
 have hown1 : (Value.slice (some ⟨g', 0, none⟩) (rs.length + 1) cap').ownBlock = some g' := rfl
 have hFg : Fg w w' v (.slice (some ⟨g', 0, none⟩) (rs.length + 1) cap') := ⟨r3.os, r3.tape, r3.output, r3.size, fun k hk hn => r3.block k hk (fun e => hn e.symm), r5.imp id (fun e k hk => by rw [e] at hk; cases hk; exact Nat.le_refl _)⟩
 have hkp : Keep (fun b => KF v b /\ X b) (fun b => b ≠ g' /\ X b) w w' := fun b hb hl => ⟨(hFg.keep b hb.1 hl).1, fun e => (hFg.keep b hb.1 hl).2 (by rw [hown1, e]), hb.2⟩
 have hoks : ∀ y ∈ N :: rs, y.Ok := fun y hy => by
  rcases List.mem_cons.1 hy with e | e
  ·rw [e]; exact hN.l
  ·exact hats.oks y e
 refine ⟨g', cap', w', fun ty => r1, ⟨⟨cur, hg, hc3⟩, hc1, hc2, Zw2 hoks (fun m u hu => ?_), ⟨hN.keep hkp, hats.keep hkp⟩⟩, hbg, hFg⟩
 rw [cell_of_row _ _ _ _ _ _ hg, <- Array.getElem?_toList]
 have hu2 : (flatF rs ++ N.cells)[m]? = some u := hu
 rw [<- hc4] at hu2
 have hlt := (List.getElem?_eq_some_iff.1 hu2).1
 rw [List.length_take] at hlt
 rw [List.getElem?_take_of_lt (by omega)] at hu2
 exact hu2
def fkz (d : Nat) : FV := ⟨d, fun _ => rz, none, 0, 0⟩
theorem Zs5 (d : Nat) : (fkz d).Ok := fun _ => rfl
theorem Zyo (d : Int) : Tryz.prog.built 63 [(0, .int .i64 d)] = some (Array.mk (.int .i64 d :: (kc (fun _ => rz) 16 ++ [.slice none 0 0]))) := congrFun (show (fun d : Int => Tryz.prog.built 63 [(0, .int .i64 d)]) = fun d => some (Array.mk (.int .i64 d :: (kc (fun _ => rz) 16 ++ [.slice none 0 0]))) from by kernel_rfl) d
theorem Zzy (K : Nat -> Prop) (w : World) (d : Nat) : FkAt K w (fkz d) ⟨d, nk, []⟩ := ⟨rfl, Zs5 d, fun i _ => by rw [show rP nk i = r0 from rfl]; exact Zh7 K w, ⟨⟨.inl ⟨rfl, rfl⟩, fun _ => ⟨rfl, rfl⟩, rfl, fun x hx => by cases hx⟩, fun x hx => by cases hx⟩, Nat.zero_le _⟩
theorem Zr9 {ρ : Operand -> Value} {w : World} {o : Oper} (ho : o.op = .alloc 63) : (execOp ρ o).run Tryz.prog w = .ok (.value (.pointer (some ⟨w.heap.size, 0, none⟩))) (w.alloc (.cells (fkz 0).cells.toArray 63)) := by
 obtain ⟨i, hi, hz, hsz, hby⟩ := Zo0
 unfold execOp
 rw [ho]
 simp [Instr.alloc, zeroValue, typeInfo, hi, hz, newVar, newRow, Value.cells, fkz]
theorem Zxd (w : World) {N : FV} (hN : N.Ok) : (Instr.buildSlice 52 1 #[(0, .agg N.cells.toArray)]).run Tryz.prog w = .ok (.slice (some ⟨w.heap.size, 0, none⟩) 1 1) (w.alloc (.cells N.cells.toArray 63)) := by
 obtain ⟨i, hi, hz, hsz, hby⟩ := Zo0
 refine run_buildSlice w 52 63 1 _ N.cells.toArray i _ Tryz.underlying52 hi hz (by rw [hsz]; omega) (by rw [hsz]; omega) ?_
 rw [hsz]
 have h := Great.fill_whole (s := 546) (by omega) [.agg N.cells.toArray] ((Array.range (1 * 546)).map ((Value.agg (FV.cells ⟨0, fun _ => rz, none, 0, 0⟩).toArray).cells[· % (Value.agg (FV.cells ⟨0, fun _ => rz, none, 0, 0⟩).toArray).cells.size]!)) (fun v hv => by
  rw [List.mem_singleton.1 hv]
  exact Zgy hN) (by rw [Array.size_map, Array.size_range]; rfl)
 refine h.trans ?_
 simp [Value.cells]
theorem Zop {ρ : Operand -> Value} {w : World} {o : Oper} {N : FV} (hN : N.Ok) {x : Operand} (ho : o.op = .buildSlice 52 1 #[(0, x)]) (hx : ρ x = .agg N.cells.toArray) : (execOp ρ o).run Tryz.prog w = .ok (.value (.slice (some ⟨w.heap.size, 0, none⟩) 1 1)) (w.alloc (.cells N.cells.toArray 63)) := by
 unfold execOp
 simp only [ho, Sem.run_bind, List.map_toArray, List.map_cons, List.map_nil, hx, Zxd w hN, Result.andThen_ok, Sem.run_pure]
theorem FksAt.cases {K : Nat -> Prop} {w : World} {xs : List FV} {r : List Fk} (h : FksAt K w xs r) : (xs = [] /\ r = []) \/ ∃ x y xs' r', xs = x :: xs' /\ r = y :: r' := by
 cases xs with
 | nil => cases r with
  | nil => exact .inl ⟨rfl, rfl⟩
  | cons y r' => exact h.elim
 | cons x xs' => cases r with
  | nil => exact h.elim
  | cons y r' => exact .inr ⟨x, y, xs', r', rfl, rfl⟩
theorem Sk.cell {K : Nat -> Prop} {w : World} {a : Option Addr} {n c : Nat} {bs : List Int} (h : Sk K w a n c bs) {j : Nat} (hj : j < n) : ∃ g off, a = some ⟨g, off, none⟩ /\ K g /\ w.cell? ⟨g, off + j * 1, none⟩ = some (.int .u8 (bs.getD j 0)) := by
 rcases h.ag.i with ⟨q, _⟩ | ⟨g, off, h1, h2, h3, h4, h5, h7⟩
 ·omega
 ·exact ⟨g, off, h1, h.k _ h1 h3, by rw [Nat.mul_one]; exact h7 j (by rw [h2]; exact hj)⟩
structure Cg (X : Nat -> Prop) (w : World) (base : Nat) (v0 : Value) (P : List Int) (c : Nat) (z : Fk × List Fk) (a : Option Addr) (n cp : Nat) (g cap nW : Nat) (x : FV) (xs : List FV) (f : Fk) (r : List Fk) (v : World) : Prop where
 wy : Way X v g cap (x :: xs) (f :: r)
 nw : xs.length + 1 = nW
 sm : nW <= 900
 bg : base <= g
 b : base <= v.heap.size
 fg : Fg w v v0 (.slice (some ⟨g, 0, none⟩) nW cap)
 p : Sk (KF (.slice (some ⟨g, 0, none⟩) nW cap)) v a n cp P
 dw : Dw f.d r
 cf : c <= f.d
 fp : f.d <= P.length
 z : clo P c f r = z
theorem Zfx {g n c b : Nat} (h : KF (.slice (some ⟨g, 0, none⟩) n c) b) : b ≠ g := fun e => h (by rw [e]; rfl)
theorem Zez {g n c b : Nat} (h : b ≠ g) : KF (.slice (some ⟨g, 0, none⟩) n c) b := fun e => h (by simpa [Value.ownBlock] using e.symm)
theorem Fg.same {w v : World} {v0 v1 v2 : Value} (h : Fg w v v0 v1) (e : v2.ownBlock = v1.ownBlock) : Fg w v v0 v2 := ⟨h.os, h.tape, h.output, h.size, h.block, by rw [e]; exact h.own⟩
theorem Fg.keepN {X : Nat -> Prop} {w v : World} {g n c g' n' c' : Nat} (h : Fg w v (.slice (some ⟨g, 0, none⟩) n c) (.slice (some ⟨g', 0, none⟩) n' c')) : Keep (fun b => b ≠ g /\ X b) (fun b => b ≠ g' /\ X b) w v := fun b hb hl => ⟨(h.keep b (Zez hb.1) hl).1, Zfx (h.keep b (Zez hb.1) hl).2, hb.2⟩
def newB (c : Nat) : List Fk -> Bool
 | [] => true
 | g :: _ => decide (g.d < c)
theorem Zym {P : List Int} {c : Nat} {f : Fk} {r : List Fk} (h : f.d ≠ c) (hb : newB c r = true) : clo P c f r = (into P ⟨c, nk, []⟩ f, r) := by
 cases r with
 | nil => simp only [clo]; rw [if_neg h]
 | cons g r => simp only [clo]; rw [if_neg h, if_pos (of_decide_eq_true hb)]
theorem Ztl {P : List Int} {c : Nat} {f : Fk} (h : f.d = c) (r : List Fk) : clo P c f r = (f, r) := by
 cases r with
 | nil => simp only [clo]; rw [if_pos h]
 | cons g r => simp only [clo]; rw [if_pos h]
theorem Zz4 {c d : Nat} {r : List Fk} (h : Dw d r) (hb : newB c r = true) : Dw c r := by
 cases r with
 | nil => trivial
 | cons g r => exact ⟨of_decide_eq_true hb, h.2⟩
def RCl (X : Nat -> Prop) (w : World) (base : Nat) (v0 : Value) (z : Fk × List Fk) : Value -> World -> Prop := fun u w' => ∃ g cap rs, u = .slice (some ⟨g, 0, none⟩) rs.length cap /\ Way X w' g cap rs (z.1 :: z.2) /\ base <= g /\ rs.length <= 900 /\ Fg w w' v0 (.slice (some ⟨g, 0, none⟩) rs.length cap)
set_option maxHeartbeats 8000000 in
theorem Zgk {X : Nat -> Prop} {w : World} (hX : ∀ b, w.heap.size <= b -> X b) {base : Nat} {v0 : Value} {P : List Int} (hNb : Nb P) {c : Nat} {a : Option Addr} {n cp g0 cap0 nW0 : Nat} {x0 : FV} {xs0 : List FV} {f0 : Fk} {r0 : List Fk} (hP64 : P.length <= 64) (hC0 : Cg X w base v0 P c (clo P c f0 r0) a n cp g0 cap0 nW0 x0 xs0 f0 r0 w) :
  Calls Tryz.prog 28 #[.slice (some ⟨g0, 0, none⟩) nW0 cap0, .slice a n cp, .int .i64 ((c : Nat) : Int)] w fun e w' => ∃ u, e = .returned u /\ RCl X w base v0 (clo P c f0 r0) u w' := by
 have hB := Bl.refl w
 refine Za3 Tryz.func28 rfl 69 rfl ?_
 show CW _ _ _ _ _ _ _ [(0, .slice (some ⟨g0, 0, none⟩) nW0 cap0), (1, .slice a n cp), (2, .int .i64 ((c : Nat) : Int))] _
 refine Zac <| Zaa <| rp 6 (.slice none 0 0) <| Zad <| Zab <| Zay <| Zdj (X := Nat × Nat × Nat × FV × List FV × Fk × List Fk) (fun q => [(0, .slice (some ⟨q.1, 0, none⟩) q.2.2.1 q.2.1), (1, .slice a n cp), (2, .int .i64 ((c : Nat) : Int))]) (fun q v => Cg X w base v0 P c (clo P c f0 r0) a n cp q.1 q.2.1 q.2.2.1 q.2.2.2.1 q.2.2.2.2.1 q.2.2.2.2.2.1 q.2.2.2.2.2.2 v) (fun q => q.2.2.2.2.2.2.length + if q.2.2.2.2.2.1.d = c then 0 else 1) (g0, cap0, nW0, x0, xs0, f0, r0) (by exact ⟨fun _ => by kernel_rfl, ⟨fun _ => by kernel_rfl, ⟨fun _ => by kernel_rfl, trivial⟩⟩⟩) hC0 ?_
 clear hB
 rintro ⟨g, cap, nW, x, xs, f, r⟩ v hC
 simp only at hC
 show CW _ _ _ _ _ _ _ [(0, .slice (some ⟨g, 0, none⟩) nW cap), (1, .slice a n cp), (2, .int .i64 ((c : Nat) : Int))] _
 obtain ⟨l, hl⟩ : ∃ l, xs.length = l := ⟨_, rfl⟩
 have hnw := hC.nw
 have hnsm := hC.sm
 have hxk := hC.wy.at'.1
 have hxd := hxk.d
 have hxl := hxk.l
 have hrg : v.rangeAt g (0 + l * 546) x.cells := by rw [Nat.zero_add, <- hl]; exact hC.wy.y.1
 have hcap : nW <= cap := by have := hC.wy.nc; rw [List.length_cons] at this; omega
 have hlp := hC.p.len
 refine Zay <| Zac <| Zaa <| rp 11 (.slice (some ⟨g, 0, none⟩) nW cap) <| rp 12 (.int .i64 nW) <| rv 13 (.int .i64 ((l : Nat) : Int)) (fun _ => Zai (v := .int .i64 (IntKind.i64.wrap ((nW : Int) - 1))) (by kernel_rfl) (congrArg (Value.int .i64) (by rw [Zb6 (by omega) (by omega)]; omega))) <| rp 7 (.int .i64 ((l : Nat) : Int)) <| Zad <| Zab <| Zac <| Zaa <| rp 14 (.slice (some ⟨g, 0, none⟩) nW cap) ?_
 refine rp 15 (.int .i64 ((l : Nat) : Int)) <| rv 16 (.pointer (some ⟨g, 0 + l * 546, none⟩)) (fun _ => Zas 52 _ _ g 0 l nW cap 546 63 rfl (by kernel_rfl) (by kernel_rfl) (by omega) Tryz.underlying52 (by kernel_rfl)) <| rv 17 (.agg x.cells.toArray) (fun _ => Zl7 63 _ g (0 + l * 546) x.cells _ rfl (by kernel_rfl) hrg Tryz.underlying63 rfl (by rw [Zsx, FV.len hxl])) <| Zb7 8 (fkz 0).cells.toArray 63 (fun _ => by kernel_rfl) (fun _ => Zr9 rfl) ?_
 intro w1 g8 hn8
 refine Zcx g8 x.cells.toArray (fun _ => by kernel_rfl) (fun _ => Zbf 63 _ _ _ _ _ _ rfl (by kernel_rfl) (by kernel_rfl) hn8.row (by rw [Zsx, Zgy hxl]) (by rw [Zgy hxl, Zgy (Zs5 0)]) (Zzz _)) ?_
 intro w2 hp8
 have hr8 : Rw g8 w2 x.cells.toArray 63 := hp8.row hn8.row
 have hb2 : Bl v w2 := hp8.below hn8.below (by rw [hn8.hg]; exact Nat.le_refl _) hn8.below.size
 have hg8 := hn8.hg
 have hglt := hC.wy.lt
 have hW2 := hC.wy.go hb2
 have hG2 := hC.fg.trans (Fg.of_below hb2)
 have hp2 := hC.p.go hb2
 have hz2 := hb2.size
 have hbb := hC.b
 clear hn8 hp8
 refine Zad <| Zab <| Zac <| Zac <| Zaa <| rp 18 (.pointer (some ⟨g8, 0, none⟩)) <| rv 19 (.int .i64 ((x.d : Nat) : Int)) (fun _ => Zam 3 _ ⟨g8, 0, none⟩ _ _ rfl (by kernel_rfl) (Zta (Zdg hr8)) Tryz.underlying3 rfl) <| rp 20 (.int .i64 ((c : Nat) : Int)) <| rp 21 (.bool (((x.d : Nat) : Int) == ((c : Nat) : Int))) <| Zad <| Zab ?_
 by_cases hfc : f.d = c
 ·skip
  rw [show (((x.d : Nat) : Int) == ((c : Nat) : Int)) = true from beq_iff_eq.2 (by omega)]
  refine Zan (fun _ => by kernel_rfl) <| Zac <| Zaa <| rp 22 (.slice (some ⟨g, 0, none⟩) nW cap) <| rp 6 (.slice (some ⟨g, 0, none⟩) nW cap) <| Zad <| Zab <| Za5 <| Zap <| Zbc <| Zap <| Zbc ?_
  exact Zaf (.slice (some ⟨g, 0, none⟩) nW cap) (fun _ => by kernel_rfl) ⟨_, rfl, g, cap, x :: xs, by rw [List.length_cons, hnw], by have hz := hC.z; rw [Ztl hfc] at hz; rw [<- hz]; exact hW2, hC.bg, by rw [List.length_cons, hnw]; exact hnsm, by rw [List.length_cons, hnw]; exact hG2⟩
 ·skip
  rw [show (((x.d : Nat) : Int) == ((c : Nat) : Int)) = false from beq_eq_false_iff_ne.2 (by omega)]
  refine Zao (fun _ => by kernel_rfl) ?_
  have hcf := hC.cf
  have hfp := hC.fp
  refine Zaz <| Zab <| Zac <| Zaa <| rp 23 (.slice (some ⟨g, 0, none⟩) nW cap) <| rp 24 (.int .i64 ((l : Nat) : Int)) <| rv 25 (.slice (some ⟨g, 0, none⟩) l cap) (fun _ => Zxr (n := nW) rfl (by kernel_rfl) (by kernel_rfl) (by omega)) <| rp 0 (.slice (some ⟨g, 0, none⟩) l cap) <| Zad <| Zab <| Zac <| Zac ?_
  refine Zpf (fun E v3 => E = [(37, .bool (newB c r)), (0, .slice (some ⟨g, 0, none⟩) l cap), (1, .slice a n cp), (2, .int .i64 ((c : Nat) : Int)), (8, .pointer (some ⟨g8, 0, none⟩))] /\ w2 = v3) ?_ ?_
  ·skip
   rcases hC.wy.at'.2.cases with ⟨hxs, hrr⟩ | ⟨x2, f2, xs2, r2, hxs, hrr⟩
   ·skip
    have hl0 : l = 0 := by rw [<- hl, hxs]; rfl
    refine Zaa <| rp 26 (.int .i64 ((l : Nat) : Int)) <| rv 27 (.bool true) (fun _ => Zai (v := .bool (((l : Nat) : Int) == (0 : Int))) (by kernel_rfl) (congrArg Value.bool (beq_iff_eq.2 (by omega)))) <| rp 28 (.bool true) <| Za9 29 (fun _ => by kernel_rfl) <| Za9 30 (fun _ => by kernel_rfl) <| Za9 31 (fun _ => by kernel_rfl) <| Za9 32 (fun _ => by kernel_rfl) <| Za9 33 (fun _ => by kernel_rfl) <| Za9 34 (fun _ => by kernel_rfl) <| Za9 35 (fun _ => by kernel_rfl) <| Za9 36 (fun _ => by kernel_rfl) ?_
    refine rp 37 (.bool true) <| Zad ?_
    exact Ze0 [(37, .bool true), (0, .slice (some ⟨g, 0, none⟩) l cap), (1, .slice a n cp), (2, .int .i64 ((c : Nat) : Int)), (8, .pointer (some ⟨g8, 0, none⟩))] (by exact ⟨fun _ => by kernel_rfl, ⟨fun _ => by kernel_rfl, ⟨fun _ => by kernel_rfl, ⟨fun _ => by kernel_rfl, ⟨fun _ => by kernel_rfl, trivial⟩⟩⟩⟩⟩) ⟨by rw [hrr]; rfl, rfl⟩
   ·skip
    have hl2 : xs2.length + 1 = l := by rw [<- hl, hxs]; rfl
    have hWp := hW2
    rw [hxs, hrr] at hWp
    have hrg2 : w2.rangeAt g (0 + xs2.length * 546) x2.cells := by rw [Nat.zero_add]; exact hWp.y.2.1
    have hx2d := hWp.at'.2.1.d
    refine Zaa <| rp 26 (.int .i64 ((l : Nat) : Int)) <| rv 27 (.bool false) (fun _ => Zai (v := .bool (((l : Nat) : Int) == (0 : Int))) (by kernel_rfl) (congrArg Value.bool (beq_eq_false_iff_ne.2 (by omega)))) <| rp 28 (.bool false) <| rp 29 (.slice (some ⟨g, 0, none⟩) l cap) <| rp 30 (.int .i64 ((l : Nat) : Int)) <| rv 31 (.int .i64 ((xs2.length : Nat) : Int)) (fun _ => Zai (v := .int .i64 (IntKind.i64.wrap (((l : Nat) : Int) - 1))) (by kernel_rfl) (congrArg (Value.int .i64) (by rw [Zb6 (by omega) (by omega)]; omega))) <| rv 32 (.pointer (some ⟨g, 0 + xs2.length * 546, none⟩)) (fun _ => Zas 52 _ _ g 0 xs2.length l cap 546 63 rfl (by kernel_rfl) (by kernel_rfl) (by omega) Tryz.underlying52 (by kernel_rfl)) <| rp 33 (.pointer (some ⟨g, 0 + xs2.length * 546, none⟩)) <| rv 34 (.int .i64 ((x2.d : Nat) : Int)) (fun _ => Zam 3 _ _ _ _ rfl (by kernel_rfl) (Zta hrg2) Tryz.underlying3 rfl) <| rp 35 (.int .i64 ((c : Nat) : Int)) <| rp 36 (.bool (decide (((x2.d : Nat) : Int) < ((c : Nat) : Int)))) ?_
    refine rp 37 (.bool (decide (((x2.d : Nat) : Int) < ((c : Nat) : Int)))) <| Zad ?_
    exact Ze0 [(37, .bool (decide (((x2.d : Nat) : Int) < ((c : Nat) : Int)))), (0, .slice (some ⟨g, 0, none⟩) l cap), (1, .slice a n cp), (2, .int .i64 ((c : Nat) : Int)), (8, .pointer (some ⟨g8, 0, none⟩))] (by exact ⟨fun _ => by kernel_rfl, ⟨fun _ => by kernel_rfl, ⟨fun _ => by kernel_rfl, ⟨fun _ => by kernel_rfl, ⟨fun _ => by kernel_rfl, trivial⟩⟩⟩⟩⟩) ⟨by rw [hrr, show newB c (f2 :: r2) = decide (((x2.d : Nat) : Int) < ((c : Nat) : Int)) from decide_eq_decide.2 (by omega)], rfl⟩
  rintro _ _ ⟨rfl, rfl⟩
  refine Zab ?_
  refine Zpf (fun E v3 => ∃ gA capA nA xA xsA fA rA, E = [(0, .slice (some ⟨gA, 0, none⟩) nA capA), (1, .slice a n cp), (2, .int .i64 ((c : Nat) : Int)), (8, .pointer (some ⟨g8, 0, none⟩))] /\ Way X v3 gA capA (xA :: xsA) (fA :: rA) /\ xsA.length + 1 = nA /\ nA <= 900 /\ base <= gA /\ Fg w v3 v0 (.slice (some ⟨gA, 0, none⟩) nA capA) /\ fA.d < f.d /\ Dw fA.d rA /\ c <= fA.d /\ clo P c (into P fA f) rA = (clo P c f0 r0) /\ Rw g8 v3 x.cells.toArray 63 /\ g8 ≠ gA /\ FkAt (fun b => b ≠ gA /\ X b) v3 x f /\ Sk (KF (.slice (some ⟨gA, 0, none⟩) nA capA)) v3 a n cp P /\ w2.heap.size <= v3.heap.size /\ rA.length + (if fA.d = c then 0 else 1) < r.length + 1) ?_ ?_
  ·skip
   cases hnb : newB c r with
   | true =>
    refine Zan (fun _ => by kernel_rfl) <| Zaa <| rp 38 (.slice (some ⟨g, 0, none⟩) l cap) <| rp 39 (.int .i64 ((c : Nat) : Int)) <| rv 40 (.agg (fkz c).cells.toArray) (fun _ => Zcr 63 _ [(0, .int .i64 ((c : Nat) : Int))] _ rfl (by kernel_rfl) (Zyo _)) <| Zdf 41 (fkz c).cells.toArray 63 1 (fun _ => by kernel_rfl) (fun _ => Zop (Zs5 c) rfl (by kernel_rfl)) ?_
    intro w3 gP hnP
    have hb3 := hnP.below
    have hz3 := hb3.size
    have hW3 := hW2.pop.go hb3
    have hV3 : WayV X w3 base (.slice (some ⟨g, 0, none⟩) l cap) xs r := .inr ⟨g, cap, by rw [hl], hC.bg, hW3⟩
    obtain ⟨gA, capA, w4, hrA, hWA, hbA, hGA⟩ := appW hV3 (Zdg hnP.row) (Zzy _ w3 c) (by omega) (by omega)
    rw [hl] at hrA hGA
    refine rw_v 42 (.slice (some ⟨gA, 0, none⟩) (l + 1) capA) (fun _ => by kernel_rfl) (fun _ => Zik hrA _ _ rfl (by kernel_rfl) (by kernel_rfl)) <| rp 0 (.slice (some ⟨gA, 0, none⟩) (l + 1) capA) <| Zad ?_
    have hF8 := (hr8.go hb3).fg hGA (Zez (by omega))
    exact Ze0 [(0, .slice (some ⟨gA, 0, none⟩) (l + 1) capA), (1, .slice a n cp), (2, .int .i64 ((c : Nat) : Int)), (8, .pointer (some ⟨g8, 0, none⟩))] (by exact ⟨fun _ => by kernel_rfl, ⟨fun _ => by kernel_rfl, ⟨fun _ => by kernel_rfl, ⟨fun _ => by kernel_rfl, trivial⟩⟩⟩⟩) ⟨gA, capA, l + 1, fkz c, xs, ⟨c, nk, []⟩, r, rfl, hWA, by rw [hl], by omega, hbA, (Fg.same (v2 := .slice (some ⟨g, 0, none⟩) l cap) (hG2.trans (Fg.of_below hb3)) rfl).trans hGA, (show c < f.d by omega), Zz4 hC.dw hnb, Nat.le_refl c, by rw [Ztl (c := c) (f := into P ⟨c, nk, []⟩ f) rfl, <- Zym hfc hnb]; exact hC.z, hF8.1, Zfx hF8.2, hxk.keep (fun b hb hl => hGA.keepN (X := X) b hb (by have := hb2.size; omega) |>.imp (fun e => e.trans ((Zcj (K := fun _ => True) (hb2.go hb3) b trivial hl).1)) id), (hp2.go hb3).keep (fun b hb hl => hGA.keep b (Zez (Zfx hb)) hl), Nat.le_trans hz3 hGA.size, by rw [if_pos rfl]; omega⟩
   | false =>
    refine Zao (fun _ => by kernel_rfl) <| Zaz ?_
    rcases hC.wy.at'.2.cases with ⟨hxs, hrr⟩ | ⟨x2, f2, xs2, r2, hxs, hrr⟩
    ·rw [hrr] at hnb; cases hnb
    ·skip
     have hl2 : xs2.length + 1 = l := by rw [<- hl, hxs]; rfl
     have hWp := hW2
     rw [hxs, hrr] at hWp
     have hdw := hC.dw
     rw [hrr] at hdw hnb
     have hg2 : ¬ f2.d < c := of_decide_eq_false hnb
     have hzz := hC.z
     rw [hrr, show clo P c f (f2 :: r2) = clo P c (into P f2 f) r2 from by simp only [clo]; rw [if_neg hfc, if_neg hg2]] at hzz
     exact Ze0 [(0, .slice (some ⟨g, 0, none⟩) l cap), (1, .slice a n cp), (2, .int .i64 ((c : Nat) : Int)), (8, .pointer (some ⟨g8, 0, none⟩))] (by exact ⟨fun _ => by kernel_rfl, ⟨fun _ => by kernel_rfl, ⟨fun _ => by kernel_rfl, ⟨fun _ => by kernel_rfl, trivial⟩⟩⟩⟩) ⟨g, cap, l, x2, xs2, f2, r2, rfl, hWp.pop, hl2, by omega, hC.bg, hG2.same rfl, hdw.1, hdw.2, by omega, hzz, hr8, by omega, hxk.keep (Zcj hb2), hp2.mono (fun b hb => Zez (Zfx hb)), Nat.le_refl _, by rw [hrr, List.length_cons]; split <;> omega⟩
  rintro _ v3 ⟨gA, capA, nA, xA, xsA, fA, rA, rfl, hWA, hnA, hnA9, hbA, hGA, hfA, hdA, hcA, hzA, hr8A, hg8A, hxA, hpA, hz3, hmu⟩
  clear hr8 hW2 hp2 hG2 hrg
  have hr8 := hr8A
  obtain ⟨lA, hlA⟩ : ∃ l, xsA.length = l := ⟨_, rfl⟩
  have hxAd := hWA.at'.1.d
  have hrA : v3.rangeAt gA (0 + lA * 546) xA.cells := by rw [Nat.zero_add, <- hlA]; exact hWA.y.1
  have hcapA : nA <= capA := by have := hWA.nc; rw [List.length_cons] at this; omega
  have hlpA := hpA.len
  refine Zab <| Zac <| Zaa <| rp 43 (.slice (some ⟨gA, 0, none⟩) nA capA) <| rp 44 (.int .i64 nA) <| rv 45 (.int .i64 ((lA : Nat) : Int)) (fun _ => Zai (v := .int .i64 (IntKind.i64.wrap ((nA : Int) - 1))) (by kernel_rfl) (congrArg (Value.int .i64) (by rw [Zb6 (by omega) (by omega)]; omega))) <| rp 9 (.int .i64 ((lA : Nat) : Int)) <| Zad <| Zab <| Zac <| Zaa <| rp 46 (.slice (some ⟨gA, 0, none⟩) nA capA) ?_
  refine rp 47 (.int .i64 ((lA : Nat) : Int)) <| rv 48 (.pointer (some ⟨gA, 0 + lA * 546, none⟩)) (fun _ => Zas 52 _ _ gA 0 lA nA capA 546 63 rfl (by kernel_rfl) (by kernel_rfl) (by omega) Tryz.underlying52 (by kernel_rfl)) <| rp 49 (.pointer (some ⟨gA, 0 + lA * 546, none⟩)) <| rv 50 (.int .i64 ((xA.d : Nat) : Int)) (fun _ => Zam 3 _ _ _ _ rfl (by kernel_rfl) (Zta hrA) Tryz.underlying3 rfl) <| rp 10 (.int .i64 ((xA.d : Nat) : Int)) <| Zad <| Zab ?_
  obtain ⟨gp, op, hae, hKp, hcp⟩ := hpA.cell (j := fA.d) (by omega)
  obtain ⟨hx16, hxi⟩ := Zmg hNb (show fA.d < P.length by omega)
  rw [<- hxi] at hcp
  obtain ⟨a2, n2, c2, hr2, hs2, hn2⟩ := hpA.cut2 (fA.d + 1) f.d (by omega) (by omega)
  have hV := Bl.refl v3
  rw [hae] at hr2
  subst hae
  show CW _ _ _ _ _ _ _ [(10, .int .i64 ((xA.d : Nat) : Int)), (50, .int .i64 ((xA.d : Nat) : Int)), (49, .pointer (some ⟨gA, 0 + lA * 546, none⟩)), (48, .pointer (some ⟨gA, 0 + lA * 546, none⟩)), (47, .int .i64 ((lA : Nat) : Int)), (46, .slice (some ⟨gA, 0, none⟩) nA capA), (9, .int .i64 ((lA : Nat) : Int)), (45, .int .i64 ((lA : Nat) : Int)), (44, .int .i64 nA), (43, .slice (some ⟨gA, 0, none⟩) nA capA), (0, .slice (some ⟨gA, 0, none⟩) nA capA), (1, .slice (some ⟨gp, op, none⟩) n cp), (2, .int .i64 ((c : Nat) : Int)), (8, .pointer (some ⟨g8, 0, none⟩))] _
  refine Zcb (fun u => Rw g8 u x.cells.toArray 63 /\ u.cell? ⟨gp, op + fA.d * 1, none⟩ = some (.int .u8 ((ix P fA.d : Nat) : Int))) (by kernel_rfl) (⟨hr8.go (Bl.drew (Bl.refl v3)), ((Bl.drew (Bl.refl v3)).cell (p := ⟨gp, op + fA.d * 1, none⟩) (block_lt_of_cell hcp)).trans hcp⟩) ?_
  replace hV := hV.drew
  refine dt 0 51 (.slice (some ⟨gA, 0, none⟩) nA capA) (fun v hv _ => by kernel_rfl) ⟨hr8.go (hV), ((hV).cell (p := ⟨gp, op + fA.d * 1, none⟩) (block_lt_of_cell hcp)).trans hcp⟩ <| dt 1 52 (.int .i64 ((lA : Nat) : Int)) (fun v hv _ => by kernel_rfl) ⟨hr8.go (hV), ((hV).cell (p := ⟨gp, op + fA.d * 1, none⟩) (block_lt_of_cell hcp)).trans hcp⟩ <| dt 2 53 (.slice (some ⟨gp, op, none⟩) n cp) (fun v hv _ => by kernel_rfl) ⟨hr8.go (hV), ((hV).cell (p := ⟨gp, op + fA.d * 1, none⟩) (block_lt_of_cell hcp)).trans hcp⟩ <| dt 3 54 (.int .i64 ((xA.d : Nat) : Int)) (fun v hv _ => by kernel_rfl) ⟨hr8.go (hV), ((hV).cell (p := ⟨gp, op + fA.d * 1, none⟩) (block_lt_of_cell hcp)).trans hcp⟩ <| dt 4 55 (.pointer (some ⟨gp, op + fA.d * 1, none⟩)) (fun v hv _ => Zas 32 _ _ gp op fA.d n cp 1 5 rfl (by kernel_rfl) (by rw [<- hxAd]; kernel_rfl) (by omega) Tryz.underlying32 (by kernel_rfl)) ⟨hr8.go (hV), ((hV).cell (p := ⟨gp, op + fA.d * 1, none⟩) (block_lt_of_cell hcp)).trans hcp⟩ <| dt 5 56 (.int .u8 ((ix P fA.d : Nat) : Int)) (fun v hv _ => Zam 5 _ _ _ _ rfl (by kernel_rfl) hv.2 Tryz.underlying5 rfl) ⟨hr8.go (hV), ((hV).cell (p := ⟨gp, op + fA.d * 1, none⟩) (block_lt_of_cell hcp)).trans hcp⟩ <| dt 6 57 (.agg x.cells.toArray) (fun v hv _ => Zed 63 _ _ _ _ _ _ rfl (by kernel_rfl) hv.1 Tryz.underlying63 rfl (by rw [Zsx, Zgy hxl])) ⟨hr8.go (hV), ((hV).cell (p := ⟨gp, op + fA.d * 1, none⟩) (block_lt_of_cell hcp)).trans hcp⟩ <| dt 7 58 (.slice (some ⟨gp, op, none⟩) n cp) (fun v hv _ => by kernel_rfl) ⟨hr8.go (hV), ((hV).cell (p := ⟨gp, op + fA.d * 1, none⟩) (block_lt_of_cell hcp)).trans hcp⟩ <| dt 8 59 (.int .i64 ((xA.d : Nat) : Int)) (fun v hv _ => by kernel_rfl) ⟨hr8.go (hV), ((hV).cell (p := ⟨gp, op + fA.d * 1, none⟩) (block_lt_of_cell hcp)).trans hcp⟩ <| dt 9 60 (.int .i64 ((fA.d + 1 : Nat) : Int)) (fun v hv _ => Zai (v := .int .i64 (IntKind.i64.wrap (((xA.d : Nat) : Int) + 1))) (by kernel_rfl) (congrArg (Value.int .i64) (by rw [Zb6 (by omega) (by omega)]; omega))) ⟨hr8.go (hV), ((hV).cell (p := ⟨gp, op + fA.d * 1, none⟩) (block_lt_of_cell hcp)).trans hcp⟩ <| dt 10 61 (.pointer (some ⟨g8, 0, none⟩)) (fun v hv _ => by kernel_rfl) ⟨hr8.go (hV), ((hV).cell (p := ⟨gp, op + fA.d * 1, none⟩) (block_lt_of_cell hcp)).trans hcp⟩ <| dt 11 62 (.int .i64 ((x.d : Nat) : Int)) (fun v hv _ => Zam 3 _ ⟨g8, 0, none⟩ _ _ rfl (by kernel_rfl) (Zta (Zdg hv.1)) Tryz.underlying3 rfl) ⟨hr8.go (hV), ((hV).cell (p := ⟨gp, op + fA.d * 1, none⟩) (block_lt_of_cell hcp)).trans hcp⟩ ?_
  refine dt 12 63 (.slice a2 n2 c2) (fun v hv _ => hr2 _ _ _ _ _ _ ((fA.d + 1 : Nat) : Int) ((x.d : Nat) : Int) rfl (by kernel_rfl) (by kernel_rfl) (by kernel_rfl) rfl (by omega)) ⟨hr8.go (hV), ((hV).cell (p := ⟨gp, op + fA.d * 1, none⟩) (block_lt_of_cell hcp)).trans hcp⟩ <| dt 15 66 (.pointer (some ⟨gA, 0 + lA * 546, none⟩)) (fun v hv _ => Zas 52 _ _ gA 0 lA nA capA 546 63 rfl (by kernel_rfl) (by kernel_rfl) (by omega) Tryz.underlying52 (by kernel_rfl)) ⟨hr8.go (hV), ((hV).cell (p := ⟨gp, op + fA.d * 1, none⟩) (block_lt_of_cell hcp)).trans hcp⟩ <| dt 16 67 (.pointer (some ⟨gA, 0 + lA * 546 + 1, none⟩)) (fun v hv _ => by kernel_rfl) ⟨hr8.go (hV), ((hV).cell (p := ⟨gp, op + fA.d * 1, none⟩) (block_lt_of_cell hcp)).trans hcp⟩ <| Zah [13] (by kernel_rfl) (by simp) ?_
  refine Zba 13 64 35 #[.agg x.cells.toArray, .slice a2 n2 c2] rfl (fun _ => by kernel_rfl) (fun _ => by kernel_rfl) (R := fun u w' => (∃ a m c, u = .slice a m c /\ m <= 65540 /\ Sk (fun b => (v3.drew).heap.size <= b) w' a m c (encT (und (seg P (fA.d + 1) f.d) (fkT f)))) /\ Bl (v3.drew) w') (Zg1 (hxA.keep (Zcj hV)) (hs2.go hV) (by omega)) (fun u w' h => ⟨hr8.go (hV.go h.2), ((hV.go h.2).cell (p := ⟨gp, op + fA.d * 1, none⟩) (block_lt_of_cell hcp)).trans hcp⟩) ?_ Zar
  rintro _ u1 ⟨⟨a3, n3, c3, rfl, hm3, hs3⟩, hb1⟩
  replace hV := hV.go hb1
  have hl3 := hs3.len
  refine Zah [14] (by kernel_rfl) (by simp) ?_
  refine Zba 14 65 52 #[.slice a3 n3 c3] rfl (fun _ => by kernel_rfl) (fun _ => by kernel_rfl) (R := fun u w' => (∃ y : RV, u = .agg y.cells.toArray /\ RefAt (Own u1.heap.size w') w' y (referP (encT (und (seg P (fA.d + 1) f.d) (fkT f))))) /\ Bl u1 w') ((Zlx a3 n3 c3 _ u1 hs3.ag (by omega)).mono (fun e w' ⟨⟨y, h1, h2⟩, h3⟩ => ⟨_, h1, ⟨y, rfl, h2⟩, h3⟩)) (fun u w' h => ⟨hr8.go (hV.go h.2), ((hV.go h.2).cell (p := ⟨gp, op + fA.d * 1, none⟩) (block_lt_of_cell hcp)).trans hcp⟩) ?_ Zar
  rintro _ u2 ⟨⟨yr, rfl, hyr⟩, hb5⟩
  have hz5 := hV.size
  replace hV := hV.go hb5
  have hglA := hWA.lt
  replace hyr := hyr.mono (K' := fun b => b ≠ gA /\ X b) (fun b hb => ⟨by have := hb.1; omega, hX b (by have := hb.1; have := hGA.size; omega)⟩)
  have hyl := hyr.len
  have hWu := hWA.go hV
  refine dt 17 68 (.pointer (some ⟨gA, 0 + lA * 546 + 1 + ix P fA.d * 34, none⟩)) (fun v hv _ => Zr7 (kd := .u8) 61 _ _ gA (0 + lA * 546 + 1) (ix P fA.d) 16 34 60 rfl (by kernel_rfl) (by kernel_rfl) hx16 (by decide) Tryz.underlying61 (by kernel_rfl)) ⟨hr8.go (hV), ((hV).cell (p := ⟨gp, op + fA.d * 1, none⟩) (block_lt_of_cell hcp)).trans hcp⟩ <| Zah [18] (by kernel_rfl) (by simp) ?_
  have hWn := hWu.set hx16 hyr (Zn5 (seg P (fA.d + 1) f.d) (Zo7 f))
  have hth := hWu.there hx16
  rw [hlA] at hWn hth
  have hst := St.of u2 gA (0 + lA * 546 + 1 + ix P fA.d * 34) yr.cells
  refine ar_s 18 rfl (fun _ => by kernel_rfl) (fun _ => Zr6 _ _ hth hyl rfl (by kernel_rfl) (by kernel_rfl)) ⟨(hr8.go hV).st hst hg8A, (World.cell?_of_block (hst.other gp (Zfx hKp))).trans ((hV.cell (p := ⟨gp, op + fA.d * 1, none⟩) (block_lt_of_cell hcp)).trans hcp)⟩ ?_ Zar
  generalize u2.setCells gA (0 + lA * 546 + 1 + ix P fA.d * 34) yr.cells = wS at hWn hst ⊢
  have hFs : Fg u2 wS (.slice (some ⟨gA, 0, none⟩) nA capA) (.slice (some ⟨gA, 0, none⟩) nA capA) := ⟨hst.os, hst.tape, hst.output, by rw [hst.size]; exact Nat.le_refl _, fun k hk hn => hst.other k (Zfx hn), .inl rfl⟩
  have hFt := (Fg.of_below (v := .slice (some ⟨gA, 0, none⟩) nA capA) hV).trans hFs
  have hCn : Cg X w base v0 P c (clo P c f0 r0) (some ⟨gp, op, none⟩) n cp gA capA nA ⟨xA.d, updR xA.ys (ix P fA.d) yr, xA.a, xA.n, xA.c⟩ xsA (into P fA f) rA wS := ⟨hWn, hnA, hnA9, hbA, by have := hFt.size; omega, hGA.trans hFt, hpA.keep hFt.keep, hdA, hcA, by show fA.d <= P.length; omega, hzA⟩
  refine Zbn (by kernel_rfl) <| Zbb ?_
  exact Zbi (E := fun q => [(0, .slice (some ⟨q.1, 0, none⟩) q.2.2.1 q.2.1), (1, .slice (some ⟨gp, op, none⟩) n cp), (2, .int .i64 ((c : Nat) : Int))]) (R := fun q v => Cg X w base v0 P c (clo P c f0 r0) (some ⟨gp, op, none⟩) n cp q.1 q.2.1 q.2.2.1 q.2.2.2.1 q.2.2.2.2.1 q.2.2.2.2.2.1 q.2.2.2.2.2.2 v) (μ := fun q => q.2.2.2.2.2.2.length + if q.2.2.2.2.2.1.d = c then 0 else 1) (x := (g, cap, nW, x, xs, f, r)) (gA, capA, nA, ⟨xA.d, updR xA.ys (ix P fA.d) yr, xA.a, xA.n, xA.c⟩, xsA, into P fA f, rA) (by exact ⟨fun _ => by kernel_rfl, ⟨fun _ => by kernel_rfl, ⟨fun _ => by kernel_rfl, trivial⟩⟩⟩) hCn (by show rA.length + (if fA.d = c then 0 else 1) < r.length + (if f.d = c then 0 else 1); rw [if_neg hfc]; exact hmu)
theorem Zxx {K : Nat -> Prop} {w : World} {a : Option Addr} {n c : Nat} {bs : List Int} (h : Sk K w a n c bs) (hn : n <= 256) : ∃ w1 w2, (Instr.makeSlice 32 (.int .i64 ((n : Nat) : Int)) (.int .i64 ((n : Nat) : Int))).run Tryz.prog w = .ok (.slice (some ⟨w.heap.size, 0, none⟩) n n) w1 ∧
  (∀ ty, (Builtin.copy_ #[32, 32] ty #[.slice (some ⟨w.heap.size, 0, none⟩) n n, .slice a n c]).run Tryz.prog w1 = .ok (.int .i64 ((n : Nat) : Int)) w2) /\ Sk (fun b => w.heap.size <= b) w2 (some ⟨w.heap.size, 0, none⟩) n n bs /\ Bl w w2 := by
 obtain ⟨i, hi, hz, hsz, hby⟩ := info5
 have hl := h.len
 have hm := run_makeSlice (P := Tryz.prog) w 32 5 i (.int .u8 0) Tryz.underlying32 hi hz .i64 .i64 ((n : Nat) : Int) ((n : Nat) : Int) (by omega) (by omega) (by rw [hsz]; omega) (by rw [hby]; omega) (by omega)
 rw [Int.toNat_natCast, hsz, Nat.mul_one] at hm
 have hbw : Bl w (w.alloc (.cells (madeCells (Value.int .u8 0).cells n) 5)) := (Below.refl _ _).alloc (Nat.le_refl _) _
 have hag := h.ag.at hbw
 rcases Nat.eq_zero_or_pos n with h0 | h0
 ·subst h0
  refine ⟨_, _, hm, fun ty => run_copy_none _ 32 32 ty 5 _ _ _ _ _ _ Tryz.underlying32 (by rw [hi]; simp [hsz]) rfl, ⟨⟨.inl ⟨rfl, List.eq_nil_of_length_eq_zero hl⟩, (fun e => by cases e), hl, h.ag.b⟩, fun x hx hp => by omega⟩, hbw⟩
 ·obtain ⟨ad, ha, hc⟩ : ∃ ad, a = some ad /\ ∀ j v, (bs.map (Value.int .u8))[j]? = some v -> (w.alloc (.cells (madeCells (Value.int .u8 0).cells n) 5)).cell? (ad.add j) = some v := by
   rcases hag.i.inB hag.nil with ⟨q, _⟩ | ⟨ad', h1, _, h3⟩
   ·have := (h.ag.nil q).1; omega
   ·exact ⟨ad', h1, h3⟩
  have hrow : (w.alloc (.cells (madeCells (Value.int .u8 0).cells n) 5)).heap[w.heap.size]? = some (.cells (madeCells (Value.int .u8 0).cells n) 5 (0, 0)) := heap_alloc_new _ _
  have hth : (w.alloc (.cells (madeCells (Value.int .u8 0).cells n) 5)).there w.heap.size 0 (bs.map (Value.int .u8)).length := by
   intro m hm
   refine ⟨?_, frozen_of_row _ _ _ _ _ hrow⟩
   rw [cell_of_row _ _ _ _ _ _ hrow, Array.getElem?_eq_getElem (by rw [List.length_map] at hm; simp [madeCells]; omega)]
   rfl
  have hcp := fun ty => run_copy_cells (P := Tryz.prog) (w.alloc (.cells (madeCells (Value.int .u8 0).cells n) 5)) 32 32 ty 5 w.heap.size 0 n n ad n c (bs.map (Value.int .u8)) Tryz.underlying32 (by rw [hi]; simp [hsz]) (by rw [List.length_map, hl]; exact (Nat.min_self n).symm) hc (fun j hj => (hth j hj).1) (fun j hj => (hth j hj).2) (B8_one2 _)
  have hst := St.of (w.alloc (.cells (madeCells (Value.int .u8 0).cells n) 5)) w.heap.size 0 (bs.map (Value.int .u8))
  have hsame := World.rangeAt_setCells_same (w.alloc (.cells (madeCells (Value.int .u8 0).cells n) 5)) w.heap.size 0 (bs.map (Value.int .u8)) hth
  refine ⟨_, _, hm, fun ty => by rw [ha, hcp ty, List.length_map, hl]; rfl, ⟨⟨.inr ⟨w.heap.size, 0, rfl, hl, by omega, Nat.le_refl _, by unfold maxLen; omega, fun j hj => ?_⟩, (fun e => by cases e), hl, h.ag.b⟩, fun x hx _ => by cases hx; exact Nat.le_refl _⟩, ?_⟩
  ·refine hsame j _ ?_
   rw [List.getElem?_map, List.getElem?_eq_getElem hj, List.getD, List.getElem?_eq_getElem hj]; rfl
  ·exact ⟨hst.os.trans (Below.os hbw), hst.tape.trans (Below.tape hbw), hst.output.trans (Below.output hbw), by rw [hst.size]; exact hbw.size, fun k hk => (hst.other k (by omega)).trans (Below.block hbw k hk)⟩
theorem Zxs {w w' : World} {v u r : Value} {ρ : Operand -> Value} {o : Oper} (hr : ∀ ty, (Builtin.copy_ #[32, 32] ty #[v, u]).run Tryz.prog w = .ok r w') (x y : Operand) (ho : o.op = .call { callee := .builtin .copy, args := #[x, y], argTypes := #[32, 32] }) (hx : ρ x = v) (hy : ρ y = u) : (execOp ρ o).run Tryz.prog w = .ok (.value r) w' := by
 unfold execOp
 simp only [ho, resolve, invoke, builtin, Sem.run_bind, Sem.run_pure, Result.andThen_ok, List.map_toArray, List.map_cons, List.map_nil, hx, hy, hr]
theorem ol_mk {w w' : World} {r l c : Value} {ρ : Operand -> Value} {o : Oper} (hr : (Instr.makeSlice 32 l c).run Tryz.prog w = .ok r w') (x y : Operand) (ho : o.op = .makeSlice 32 x y) (hx : ρ x = l) (hy : ρ y = c) : (execOp ρ o).run Tryz.prog w = .ok (.value r) w' := by
 unfold execOp
 simp only [ho, Sem.run_bind, Sem.run_pure, Result.andThen_ok, hx, hy, hr]
theorem Way.one {X : Nat -> Prop} {w w' : World} {g : Nat} (h : New w w' g #[] 63) : Way X w' g 0 [] [] := ⟨⟨#[], h.row, rfl⟩, Nat.le_refl _, Nat.zero_le _, trivial, trivial⟩
theorem RefAt.old {K : Nat -> Prop} {w : World} {y : RV} {r : PR} (h : RefAt K w y r) : RefAt (fun b => b < w.heap.size /\ K b) w y r := ⟨h.1, h.2.1, h.2.2.1, h.2.2.2.1, h.2.2.2.2.1, h.2.2.2.2.2.1, fun g off e h0 => by
 obtain ⟨g', off', e', _, _, hc⟩ := ag_head h.2.2.2.2.1 h0
 rw [e] at e'; cases e'
 exact ⟨block_lt_of_cell (hc 0 h0), h.2.2.2.2.2.2 g off e h0⟩⟩
theorem FksAt.old {K : Nat -> Prop} {w : World} : ∀ {r : List FV} {s : List Fk}, FksAt K w r s -> FksAt (fun b => b < w.heap.size /\ K b) w r s
 | [], [], _ => trivial
 | x :: r, f :: s, h => ⟨⟨h.1.d, h.1.l, fun i hi => (h.1.k i hi).old, ⟨h.1.v.ag, fun x hx hn => ⟨h.1.v.old hx hn, h.1.v.k x hx hn⟩⟩, h.1.m⟩, FksAt.old h.2⟩
 | [], _ :: _, h => h.elim
 | _ :: _, [], h => h.elim
theorem Way.old {X : Nat -> Prop} {w : World} {g cap : Nat} {rs : List FV} {fs : List Fk} (h : Way X w g cap rs fs) : FksAt (fun b => b < w.heap.size /\ X b) w rs fs := h.at'.old.keep (fun b hb _ => ⟨rfl, hb.1, hb.2.2⟩)
theorem Zz6 {X : Nat -> Prop} {w w0 : World} {g cap g5 : Nat} {rs : List FV} {fs : List Fk} (h : Way X w g cap rs fs) (hn : New w0 w g5 #[] 63) (hne : rs ≠ []) (hlen : rs.length <= 1000) (hg : g < w0.heap.size) (hold : FksAt (fun b => b < w0.heap.size /\ X b) w rs fs) :
  ∃ g' cap' w', (∀ ty, (Builtin.append_ #[52, 52] ty #[.slice (some ⟨g5, 0, none⟩) 0 0, .slice (some ⟨g, 0, none⟩) rs.length cap]).run Tryz.prog w = .ok (.slice (some ⟨g', 0, none⟩) rs.length cap') w') /\ Way X w' g' cap' rs fs /\ w0.heap.size <= g' /\ Bl w0 w' := by
 obtain ⟨i, hi, hz, hsz, hby⟩ := Zo0
 have hg5 := hn.hg
 have hV : WayV X w w0.heap.size (.slice (some ⟨g5, 0, none⟩) 0 0) [] [] := .inr ⟨g5, 0, rfl, by omega, Way.one hn⟩
 have ho := h.at'.oks
 have hl := Zej ho
 have hpos : 0 < rs.length := List.length_pos_iff.2 hne
 have hone : ∀ u ∈ flatF rs, u.oneCell' = true := by
  have : ∀ l : List FV, ∀ u ∈ flatF l, u.oneCell' = true := by
   intro l
   induction l with
   | nil => intro u hu; simp [flatF] at hu
   | cons x l ih =>
    intro u hu
    rw [flatF] at hu
    rcases List.mem_append.1 hu with q | q
    ·exact ih u q
    ·exact x.one u q
  exact this rs
 obtain ⟨v', w', r1, r2, r3, _, r5⟩ := run_append_own_at w w0.heap.size 52 0 63 i _ 546 1056 Tryz.underlying52 hi hz hsz hby (Zgy (x := ⟨0, fun _ => rz, none, 0, 0⟩) (fun _ => rfl)) (by decide) _ _ _ hV.owns ⟨g, 0, none⟩ rs.length cap (flatF rs) hl (fun j u hj => by rw [Zax, Nat.zero_add]; exact Zmy ho h.y j u hj) hone (by unfold maxLen; simp; omega) (by simp; omega) (by have := hn.below.size; omega)
 rcases r2.2 with ⟨_, q⟩ | ⟨g', cap', cur, rfl, hbg, hgr, hc1, hc2, hc3, hc4⟩
 ·simp at q; exact absurd q hne
 have hFg : Fg w w' (.slice (some ⟨g5, 0, none⟩) 0 0) (.slice (some ⟨g', 0, none⟩) (([] : List FV).length + rs.length) cap') := ⟨r3.os, r3.tape, r3.output, r3.size, fun k hk hn => r3.block k hk (fun e => hn e.symm), r5.imp id (fun e k hk => by rw [e] at hk; cases hk; exact Nat.le_refl _)⟩
 have e0 : ([] : List FV).length + rs.length = rs.length := by simp
 rw [e0] at r1 hc1 hc4 hFg
 have hkp : Keep (fun b => b < w0.heap.size /\ X b) (fun b => b ≠ g' /\ X b) w w' := fun b hb hl => ⟨(hFg.keep b (Zez (by have := hb.1; omega)) hl).1, by have := hb.1; omega, hb.2⟩
 refine ⟨g', cap', w', fun ty => r1, ⟨⟨cur, hgr, hc3⟩, hc1, hc2, Zw2 ho (fun m u hu => ?_), ?_⟩, hbg, ?_⟩
 ·rw [cell_of_row _ _ _ _ _ _ hgr, <- Array.getElem?_toList]
  rw [show flatF [] ++ flatF rs = flatF rs from rfl] at hc4
  rw [<- hc4] at hu
  have hlt := (List.getElem?_eq_some_iff.1 hu).1
  rw [List.length_take] at hlt
  rw [List.getElem?_take_of_lt (by omega)] at hu
  exact hu
 ·exact FksAt.keep hkp hold
 ·exact ⟨hFg.os.trans (Below.os hn.below), hFg.tape.trans (Below.tape hn.below), hFg.output.trans (Below.output hn.below), Nat.le_trans hn.below.size hFg.size, fun k hk => (hFg.block k (by have := hn.below.size; omega) (Zez (by omega))).trans (Below.block hn.below k hk)⟩
set_option maxHeartbeats 2000000 in
theorem Zsn {K K' : Nat -> Prop} {w : World} {a a' : Option Addr} {n c n' c' : Nat} {p q : List Int} (hp : Sk K w a n c p) (hq : Sk K' w a' n' c' q) (hn : n <= 1000) (hn' : n' <= 1000) :
  Calls Tryz.prog 27 #[.slice a n c, .slice a' n' c'] w fun e w' => ∃ u, e = .returned u /\ (fun u w' => u = .bool (Ni.lessP p q) /\ Bl w w') u w' := by
 have hB := Bl.refl w
 have lp := hp.len
 have lq := hq.len
 obtain ⟨cm, hcm⟩ : ∃ c, Ni.com p q = c := ⟨_, rfl⟩
 have hcl := Ni.com_le p q
 have hla := Ni.less_at p q
 rw [hcm] at hcl hla
 refine Za3 Tryz.func27 rfl 33 rfl ?_
 show CW _ _ _ _ _ _ _ [(0, .slice a n c), (1, .slice a' n' c')] _
 refine Zac <| Zaa <| rp 4 (.bool false) <| Zad <| Zab <| Zac <| Zaa <| rp 6 (.slice a n c) <| rp 7 (.slice a' n' c') <| Za1 8 29 #[.slice a n c, .slice a' n' c'] (fun _ => by kernel_rfl) (fun _ => by kernel_rfl) (R := fun u w' => u = .int .i64 ((cm : Nat) : Int) /\ Bl w w') ((Ni.common_any a a' n c n' c' p q w hp.ag hq.ag (by omega) (by omega)).mono (fun e w' h => ⟨_, by rw [h.1, hcm], rfl, h.2⟩)) ?_
 rintro _ u1 ⟨rfl, hb1⟩
 replace hB := hB.go hb1
 replace hp := hp.go hb1
 replace hq := hq.go hb1
 refine rp 5 (.int .i64 ((cm : Nat) : Int)) <| Zad <| Zab <| Zac <| Zac <| Zaa <| rp 9 (.int .i64 ((cm : Nat) : Int)) <| rp 10 (.slice a n c) <| rp 11 (.int .i64 n) <| rp 12 (.bool (((cm : Nat) : Int) == (n : Int))) <| rp 13 (.bool (((cm : Nat) : Int) == (n : Int))) ?_
 by_cases h1 : cm = n
 ·skip
  rw [show (((cm : Nat) : Int) == (n : Int)) = true from beq_iff_eq.2 (by omega)]
  refine Za9 14 (fun _ => by kernel_rfl) <| Za9 15 (fun _ => by kernel_rfl) <| Za9 16 (fun _ => by kernel_rfl) <| Za9 17 (fun _ => by kernel_rfl) <| rp 18 (.bool true) <| Zad <| Zab <| Zan (fun _ => by kernel_rfl) <| Zac <| Zaa <| rp 19 (.slice a n c) <| rp 20 (.int .i64 n) ?_
  refine rp 21 (.slice a' n' c') <| rp 22 (.int .i64 n') <| rp 23 (.bool (decide ((n : Int) < (n' : Int)))) <| rp 4 (.bool (decide ((n : Int) < (n' : Int)))) <| Zad <| Zab <| Za5 <| Zap ?_
  have hls : Ni.lessP p q = decide ((n : Int) < (n' : Int)) := by
   rw [hla]
   by_cases e : cm = n'
   ·rw [if_pos (by omega), decide_eq_false (by omega)]
   ·rw [if_neg (by omega), if_pos (by omega), decide_eq_true (by omega)]
  exact Zaf (.bool (decide ((n : Int) < (n' : Int)))) (fun _ => by kernel_rfl) ⟨_, rfl, by rw [hls], hB⟩
 ·skip
  rw [show (((cm : Nat) : Int) == (n : Int)) = false from beq_eq_false_iff_ne.2 (by omega)]
  refine rp 14 (.int .i64 ((cm : Nat) : Int)) <| rp 15 (.slice a' n' c') <| rp 16 (.int .i64 n') <| rp 17 (.bool (((cm : Nat) : Int) == (n' : Int))) <| rp 18 (.bool (((cm : Nat) : Int) == (n' : Int))) <| Zad <| Zab ?_
  by_cases h2 : cm = n'
  ·skip
   rw [show (((cm : Nat) : Int) == (n' : Int)) = true from beq_iff_eq.2 (by omega)]
   refine Zan (fun _ => by kernel_rfl) <| Zac <| Zaa <| rp 19 (.slice a n c) <| rp 20 (.int .i64 n) <| rp 21 (.slice a' n' c') <| rp 22 (.int .i64 n') <| rp 23 (.bool (decide ((n : Int) < (n' : Int)))) <| rp 4 (.bool (decide ((n : Int) < (n' : Int)))) <| Zad <| Zab <| Za5 ?_
   refine Zap ?_
   have hls : Ni.lessP p q = decide ((n : Int) < (n' : Int)) := by
    rw [hla]
    by_cases e : cm = n'
    ·rw [if_pos (by omega), decide_eq_false (by omega)]
    ·rw [if_neg (by omega), if_pos (by omega), decide_eq_true (by omega)]
   exact Zaf (.bool (decide ((n : Int) < (n' : Int)))) (fun _ => by kernel_rfl) ⟨_, rfl, by rw [hls], hB⟩
  ·skip
   rw [show (((cm : Nat) : Int) == (n' : Int)) = false from beq_eq_false_iff_ne.2 (by omega)]
   refine Zao (fun _ => by kernel_rfl) <| Zaz <| Zab <| Zac ?_
   obtain ⟨g1, o1, rfl, _, hc1⟩ := hp.cell (j := cm) (by omega)
   obtain ⟨g2, o2, rfl, _, hc2⟩ := hq.cell (j := cm) (by omega)
   show CW _ _ _ _ _ _ _ [(18, .bool false), (17, .bool false), (16, .int .i64 n'), (15, .slice (some ⟨g2, o2, none⟩) n' c'), (14, .int .i64 ((cm : Nat) : Int)), (13, .bool false), (12, .bool false), (11, .int .i64 n), (10, .slice (some ⟨g1, o1, none⟩) n c), (9, .int .i64 ((cm : Nat) : Int)), (5, .int .i64 ((cm : Nat) : Int)), (8, .int .i64 ((cm : Nat) : Int)), (7, .slice (some ⟨g2, o2, none⟩) n' c'), (6, .slice (some ⟨g1, o1, none⟩) n c), (4, .bool false), (0, .slice (some ⟨g1, o1, none⟩) n c), (1, .slice (some ⟨g2, o2, none⟩) n' c')] _
   have hV := Bl.refl u1
   refine Zcb (fun v => Bl u1 v) (by kernel_rfl) (hV.drew) ?_
   replace hV := hV.drew
   replace hB := hB.drew
   refine dt 0 24 (.slice (some ⟨g1, o1, none⟩) n c) (fun v hv _ => by kernel_rfl) hV <| dt 1 25 (.int .i64 ((cm : Nat) : Int)) (fun v hv _ => by kernel_rfl) hV <| dt 2 26 (.pointer (some ⟨g1, o1 + cm * 1, none⟩)) (fun v hv _ => Zas 32 _ _ g1 o1 cm n c 1 5 rfl (by kernel_rfl) (by kernel_rfl) (by omega) Tryz.underlying32 (by kernel_rfl)) hV <| dt 3 27 (.int .u8 (p.getD cm 0)) (fun v hv _ => Zam 5 _ _ _ _ rfl (by kernel_rfl) ((Below.cell hv (block_lt_of_cell hc1)).trans hc1) Tryz.underlying5 rfl) hV <| dt 4 28 (.slice (some ⟨g2, o2, none⟩) n' c') (fun v hv _ => by kernel_rfl) hV <| dt 5 29 (.int .i64 ((cm : Nat) : Int)) (fun v hv _ => by kernel_rfl) hV <| dt 6 30 (.pointer (some ⟨g2, o2 + cm * 1, none⟩)) (fun v hv _ => Zas 32 _ _ g2 o2 cm n' c' 1 5 rfl (by kernel_rfl) (by kernel_rfl) (by omega) Tryz.underlying32 (by kernel_rfl)) hV <| dt 7 31 (.int .u8 (q.getD cm 0)) (fun v hv _ => Zam 5 _ _ _ _ rfl (by kernel_rfl) ((Below.cell hv (block_lt_of_cell hc2)).trans hc2) Tryz.underlying5 rfl) hV <| dt 8 32 (.bool (decide ((p.getD cm 0 : Int) < (q.getD cm 0 : Int)))) (fun v hv _ => by kernel_rfl) hV <| dt 9 4 (.bool (decide ((p.getD cm 0 : Int) < (q.getD cm 0 : Int)))) (fun v hv _ => by kernel_rfl) hV <| Zbn (by kernel_rfl) <| Zab ?_
   refine Za5 ?_
   exact Zaf (.bool (decide ((p.getD cm 0 : Int) < (q.getD cm 0 : Int)))) (fun _ => by kernel_rfl) ⟨_, rfl, by rw [hla, if_neg (by omega), if_neg (by omega)], hB⟩
set_option maxHeartbeats 2000000 in
theorem Zpm {K : Nat -> Prop} {w : World} {a : Option Addr} {n c : Nat} {bs : List Int} (h : Sk K w a n c bs) (hn : n <= 256) :
  Calls Tryz.prog 30 #[.slice a n c] w fun e w' => ∃ u, e = .returned u /\ (fun u w' => (∃ a', u = .slice a' n n /\ Sk (fun b => w.heap.size <= b) w' a' n n bs) /\ Bl w w') u w' := by
 have hB := Bl.refl w
 obtain ⟨w1, w2, hr1, hr2, hs, hb⟩ := Zxx h hn
 refine Za3 Tryz.func30 rfl 11 rfl ?_
 show CW _ _ _ _ _ _ _ [(0, .slice a n c)] _
 refine Zac <| Zaa <| rp 2 (.slice none 0 0) <| Zad <| Zab <| Zac <| Zaa <| rp 4 (.slice a n c) <| rp 5 (.int .i64 n) <| rw_v 6 (.slice (some ⟨w.heap.size, 0, none⟩) n n) (fun _ => by kernel_rfl) (fun _ => ol_mk hr1 _ _ rfl (by kernel_rfl) (by kernel_rfl)) <| rp 3 (.slice (some ⟨w.heap.size, 0, none⟩) n n) <| Zad ?_
 refine Zab <| Zac <| Zaa <| rp 7 (.slice (some ⟨w.heap.size, 0, none⟩) n n) <| rp 8 (.slice a n c) <| rw_v 9 (.int .i64 ((n : Nat) : Int)) (fun _ => by kernel_rfl) (fun _ => Zxs hr2 _ _ rfl (by kernel_rfl) (by kernel_rfl)) <| Zad <| Zab <| Zac <| Zaa <| rp 10 (.slice (some ⟨w.heap.size, 0, none⟩) n n) <| rp 2 (.slice (some ⟨w.heap.size, 0, none⟩) n n) ?_
 refine Zad <| Zab <| Za5 ?_
 exact Zaf (.slice (some ⟨w.heap.size, 0, none⟩) n n) (fun _ => by kernel_rfl) ⟨_, rfl, ⟨_, rfl, hs⟩, hb⟩
set_option maxHeartbeats 2000000 in
theorem Zqs {X : Nat -> Prop} {w : World} {g cap nW : Nat} {rs : List FV} {fs : List Fk} (h : Way X w g cap rs fs) (hnW : rs.length = nW) (hne : rs ≠ []) (hl : rs.length <= 1000) :
  Calls Tryz.prog 33 #[.slice (some ⟨g, 0, none⟩) nW cap] w fun e w' => ∃ u, e = .returned u /\ (fun u w' => (∃ g' cap', u = .slice (some ⟨g', 0, none⟩) nW cap' /\ Way X w' g' cap' rs fs /\ w.heap.size <= g') /\ Bl w w') u w' := by
 have hB := Bl.refl w
 refine Za3 Tryz.func33 rfl 8 rfl ?_
 show CW _ _ _ _ _ _ _ [(0, .slice (some ⟨g, 0, none⟩) nW cap)] _
 refine Zac <| Zaa <| rp 2 (.slice none 0 0) <| Zad <| Zab <| Zac <| Zac <| Zaa <| rp 3 (.slice (some ⟨g, 0, none⟩) nW cap) <| rp 4 (.bool false) <| Zad <| Zab ?_
 refine Zao (fun _ => by kernel_rfl) <| Zaz <| Zab <| Zac <| Zaa <| Zdf 5 #[] 63 0 (fun _ => by kernel_rfl) (fun _ => by kernel_rfl) ?_
 intro w1 g5 hn5
 refine rp 6 (.slice (some ⟨g, 0, none⟩) nW cap) ?_
 obtain ⟨g', cap', w2, hr2, hW2, hb2, hbl⟩ := Zz6 (h.go hn5.below) hn5 hne hl h.lt (h.old.keep (Zcj hn5.below))
 rw [hnW] at hr2
 refine rw_v 7 (.slice (some ⟨g', 0, none⟩) nW cap') (fun _ => by kernel_rfl) (fun _ => Zik hr2 _ _ rfl (by kernel_rfl) (by kernel_rfl)) <| rp 2 (.slice (some ⟨g', 0, none⟩) nW cap') <| Zad <| Zab <| Za5 ?_
 exact Zaf (.slice (some ⟨g', 0, none⟩) nW cap') (fun _ => by kernel_rfl) ⟨_, rfl, ⟨g', cap', rfl, hW2, hb2⟩, hbl⟩
def NDS (t : Tr) : Prop := ∀ {v : World} {gW base : Nat} {vM : Value} {Y Z : Nat -> Prop} {ns : List (List Int)} {val : Value}, TA (KW gW vM Z) v t val -> Wt v gW base vM Y ns -> (∀ b, v.heap.size <= b -> Y b) -> (ns ++ nmd t).length + 1 <= 8800000000000 -> MC "pergola/trie.node" val #[.pointer (some ⟨gW, 0, none⟩)] v (RNd v gW base vM Y ns t)
end Go.Proofs.YtdkpilgelgjieaaGreat
namespace Go.Proofs.YtdkpilgelgjieaaGreat
open Go.RowKit
open Tr
open Di (dref)
def rootP (t : Tr) : List Int := if t.isNo then dref [128] else dref (encT t)
end Go.Proofs.YtdkpilgelgjieaaGreat

/- How things are named; the root. -/
import Derived.Test.YtchgejomcgoaeaaGreatG31
import Derived.Test.YtchgejomcgoaeaaGreatG33
import Derived.Test.YtchgejomcgoaeaaGreatG14
set_option linter.unusedVariables false
set_option maxRecDepth 100000
namespace Go.Proofs.YtchgejomcgoaeaaGreat
open Go.RowKit
open Di (dref)
open Pt
variable {y : RV} {gK j n c : Nat} {w w' : World} {ys : Nat → RV} {a : Option Addr} {u : Value} {d p x : List Int}
theorem Zt1 (h : y.d.length = 32) : y.cells.toArray.size = 34 := by rw [List.size_toArray, RV.len h]
theorem Zxo (y : RV) : y.cells.toArray.all (·.oneCell') = true := all_oneCell_toArray (RV.one y)
theorem Zlq (b k : Nat) (hk : k ≠ b) : ∀ (vs : List Value) (o : Nat) (w : World), (w.setCells b o vs).heap[k]? = w.heap[k]?
  | [], _, _ => rfl
  | v :: r, o, w => (Zlq b k hk r (o + 1) _).trans (heap_setCell_other _ _ _ _ hk)
theorem Zom (b : Nat) : ∀ (vs : List Value) (o : Nat) (w : World), (w.setCells b o vs).os = w.os ∧ (w.setCells b o vs).tape = w.tape ∧ (w.setCells b o vs).output = w.output ∧ (w.setCells b o vs).heap.size = w.heap.size
  | [], _, _ => ⟨rfl, rfl, rfl, rfl⟩
  | v :: r, o, w => by
    obtain ⟨h1, h2, h3, h4⟩ := Zom b r (o + 1) (w.setCell ⟨b, o, none⟩ v)
    exact ⟨h1, h2, h3, h4.trans (by simp)⟩
theorem Zon (b : Nat) (t : TypeId) : ∀ (vs : List Value) (o : Nat) (w : World) (cur : Array Value), w.heap[b]? = some (.cells cur t (0, 0)) → ∃ cur' : Array Value, (w.setCells b o vs).heap[b]? = some (.cells cur' t (0, 0)) ∧ cur'.size = cur.size
  | [], _, _, cur, h => ⟨cur, h, rfl⟩
  | v :: r, o, w, cur, h => by
    obtain ⟨c', h1, h2⟩ := Zon b t r (o + 1) (w.setCell ⟨b, o, none⟩ v) _ (heap_setCell_same w b o cur t v h)
    exact ⟨c', h1, by rw [h2]; simp⟩
structure St (w w' : World) (g : Nat) : Prop where
  other : ∀ k, k ≠ g → w'.heap[k]? = w.heap[k]?
  os : w'.os = w.os
  tape : w'.tape = w.tape
  output : w'.output = w.output
  size : w'.heap.size = w.heap.size
theorem St.of (w : World) (g o : Nat) (vs : List Value) : St w (w.setCells g o vs) g := by
 obtain ⟨h1, h2, h3, h4⟩ := Zom g vs o w
 exact ⟨fun k hk => Zlq g k hk vs o w, h1, h2, h3, h4⟩
def kz : Array Value := (Array.range 544).map (fun x => rz.cells.toArray[x % 34]!)
def updR (ys : Nat → RV) (i : Nat) (y : RV) : Nat → RV := fun j => if j = i then y else ys j
structure Kr (gK : Nat) (w : World) (ys : Nat → RV) : Prop where
  row : ∃ cur : Array Value, w.heap[gK]? = some (.cells cur 65 (0, 0)) ∧ cur.size = 544
  rng : ∀ i, i < 16 → w.rangeAt gK (0 + i * 34) (ys i).cells
  ln : ∀ i, (ys i).d.length = 32
theorem Kr.same (h : Kr gK w ys) (e : w'.heap[gK]? = w.heap[gK]?) : Kr gK w' ys := by
 obtain ⟨cur, h1, h2⟩ := h.row
 exact ⟨⟨cur, e.trans h1, h2⟩, fun i hi m v hv => (World.cell?_of_block (show w'.heap[gK]? = w.heap[gK]? from e)).trans (h.rng i hi m v hv), h.ln⟩
theorem Kr.go (h : Kr gK w ys) (hb : Below w.heap.size w w') : Kr gK w' ys := by
 obtain ⟨cur, h1, h2⟩ := h.row
 exact h.same (hb.block gK (lt_of_get h1))
theorem Kr.lt (h : Kr gK w ys) : gK < w.heap.size := by
 obtain ⟨cur, h1, h2⟩ := h.row
 exact lt_of_get h1
theorem Kr.there (h : Kr gK w ys) (hj : j < 16) : w.there gK (0 + j * 34) 34 := by
 obtain ⟨cur, h1, h2⟩ := h.row
 intro m hm
 refine ⟨?_, frozen_of_row _ _ _ _ _ h1⟩
 rw [cell_of_row _ _ _ _ _ _ h1, Array.getElem?_eq_getElem (by omega)]
 rfl
theorem Kr.put (h : Kr gK w ys) (hj : j < 16) (hy : y.d.length = 32) : Kr gK (w.setCells gK (0 + j * 34) y.cells) (updR ys j y) := by
 have ht := h.there hj
 obtain ⟨cur, h1, h2⟩ := h.row
 obtain ⟨cur', h3, h4⟩ := Zon gK 65 y.cells (0 + j * 34) w cur h1
 refine ⟨⟨cur', h3, h4.trans h2⟩, fun i hi => ?_, fun i => ?_⟩
 ·unfold updR
  by_cases e : i = j
  ·rw [if_pos e, e]
   exact World.rangeAt_setCells_same w gK (0 + j * 34) y.cells (by rw [RV.len hy]; exact ht)
  ·rw [if_neg e]
   refine World.rangeAt_setCells_apart (h.rng i hi) gK (0 + j * 34) y.cells (.inr ?_)
   rw [RV.len (h.ln i), RV.len hy]
   omega
 ·unfold updR
  split
  ·exact hy
  ·exact h.ln i
theorem Kr.new (h : New w w' gK kz 65) : Kr gK w' (fun _ => rz) := by
 refine ⟨⟨kz, h.row, by simp [kz]⟩, fun i hi m v hv => ?_, fun _ => rfl⟩
 have hm : m < 34 := by have := (List.getElem?_eq_some_iff.1 hv).1; rw [RV.len (x := rz) rfl] at this; exact this
 rw [cell_of_row _ _ _ _ _ _ h.row]
 unfold kz
 rw [Array.getElem?_map, Array.getElem?_eq_getElem (by rw [Array.size_range]; omega)]
 rw [Array.getElem_range, Option.map_some]
 rw [show (0 + i * 34 + m) % 34 = m from by omega]
 rw [← hv, getElem!_pos _ _ (by rw [List.size_toArray, RV.len (x := rz) rfl]; exact hm)]
 simp
theorem Zph {ρ : Operand → Value} {w : World} {o : Oper} (x z : Operand) {gK j : Nat} {ys : Nat → RV} {y : RV} (h : Kr gK w ys) (hj : j < 16) (hy : y.d.length = 32) (ho : o.op = .store 65 x z) (hx : ρ x = .pointer (some ⟨gK, 0 + j * 34, none⟩)) (hz : ρ z = .agg y.cells.toArray) :
    (execOp ρ o).run Tryz.prog w = .ok .skip (w.setCells gK (0 + j * 34) y.cells) := by
  have := run_storeAt_mid (P := Tryz.prog) w gK (0 + j * 34) 65 y.cells.toArray (by rw [Zt1 hy]; exact h.there hj) (by rw [Zhi, Zt1 hy]) (Zxo y)
  unfold execOp
  simp only [ho, hx, hz, Sem.run_bind, this, Result.andThen_ok, Sem.run_pure]
def encN (n : PN) : List Int := (NEP n).1
def rfT : Pt → PR
  | no => r0
  | st d => ⟨2, d, []⟩
  | leaf p v => referP (encN ⟨1, p, v, r0, []⟩)
  | ext p c => referP (encN ⟨2, p, [], rfT c, []⟩)
  | br k v => referP (encN ⟨3, [], v, r0, (List.range 16).map fun i => rfT (k i)⟩)
def ndT : Pt → PN
  | no => n0
  | st _ => n0
  | leaf p v => ⟨1, p, v, r0, []⟩
  | ext p c => ⟨2, p, [], rfT c, []⟩
  | br k v => ⟨3, [], v, r0, (List.range 16).map fun i => rfT (k i)⟩
def rtP : Pt → List Int
  | no => dref [128]
  | st d => d
  | t => dref (encN (ndT t))
theorem Xb8 {t : Pt} (h : t.isNd = true) : rfT t = referP (encN (ndT t)) := by
 cases t with
 | no => cases h
 | st d => cases h
 | leaf p v => unfold rfT ndT; rfl
 | ext p c => rw [rfT, ndT]
 | br k v => rw [rfT, ndT]
theorem Zot {t : Pt} (h : t.isNd = true) : rtP t = dref (encN (ndT t)) := by
 cases t with
 | no => cases h
 | st d => cases h
 | leaf p v => rw [rtP] <;> (intros; rename_i e; cases e)
 | ext p c => rw [rtP] <;> (intros; rename_i e; cases e)
 | br k v => rw [rtP] <;> (intros; rename_i e; cases e)
theorem Ztd {n : PN} (h : okN n) : (encN n).length ≤ 65540 := by
 unfold encN NEP
 split
 ·rename_i hr; exact (Zjq h hr).2.2
 ·simp
theorem Zf3 (K : Nat → Prop) (w : World) : AgK K w none 0 0 [] := ⟨⟨.inl ⟨rfl, rfl⟩, fun _ => ⟨rfl, rfl⟩, rfl, fun x hx => by cases hx⟩, by omega, fun g off e => by cases e⟩
theorem Zuk : isB z32 := fun x hx => by rw [(List.mem_replicate.1 hx).2]; omega
theorem Zu7 (K : Nat → Prop) (w : World) : RefAt K w rz r0 := ⟨rfl, rfl, Zuk, rfl, Zf3 K w⟩
theorem Zm1 {v : World} {B g2 : Nat} {bs : List Int} (h : Sk An v a n c bs) (ho : ∀ x, a = some x → 0 < n → x.block < B) (hg : B ≤ g2) (hn : n ≤ 140737488351232) : AgK (fun b => b ≠ g2) v a n c bs :=
  ⟨h.ag, hn, fun g off e h0 => by have := ho _ e h0; simp only at this; omega⟩
def RRf (w : World) (r : PR) : Value → World → Prop := fun u w' => (∃ y : RV, u = .agg y.cells.toArray ∧ RefAt (fun b => w.heap.size ≤ b) w' y r) ∧ Bl w w'
def REn (w : World) (b : List Int) : Value → World → Prop := fun u w' => (∃ a n c, u = .slice a n c ∧ Sk An w' a n c b ∧ n ≤ 70000) ∧ Bl w w'
def RNd (w : World) (n : PN) : Value → World → Prop := fun u w' => (∃ y : NV, u = .agg y.cells.toArray ∧ NodeAt An w' y n) ∧ Bl w w'
def RfS (t : Pt) : Prop := ∀ {w : World} {v : Value}, ThA w t v → Calls Tryz.prog 69 #[v] w fun e w' => ∃ u, e = .returned u ∧ RRf w (rfT t) u w'
def EnS (t : Pt) : Prop := ∀ {w : World} {v : Value}, ThA w t v → Calls Tryz.prog 22 #[v] w fun e w' => ∃ u, e = .returned u ∧ REn w (encN (ndT t)) u w'
def NdS (t : Pt) : Prop := ∀ {w : World} {v : Value}, ThA w t v → Calls Tryz.prog 45 #[v] w fun e w' => ∃ u, e = .returned u ∧ RNd w (ndT t) u w'
theorem Zvq {K : Nat → Prop} {y : NV} {n : PN} (h : NodeAt K w y n) : Calls Tryz.prog 44 #[.agg y.cells.toArray] w fun e w' => ∃ v, e = .returned v ∧ (∃ a m c er, v = .tuple #[.slice a m c, .int .i64 er] ∧ Sk An w' a m c (encN n) ∧ m ≤ 70000) ∧ Bl w w' := by
 have ho := Ztd h.okN
 refine (Zkx K y n w h).mono ?_
 rintro e w' ⟨⟨a, m, c, rfl, hag, _⟩, hb⟩
 exact ⟨_, rfl, ⟨a, m, c, _, rfl, Ag.sk hag, by have := hag.l; unfold encN at ho; omega⟩, hb⟩
theorem Zr3 {b : List Int} (h : Sk An w a n c b) (hn : n ≤ 70000) : Calls Tryz.prog 102 #[.slice a n c] w fun e w' => ∃ v, e = .returned v ∧ RRf w (referP b) v w' := by
 refine (Zo0 a n c b w h.ag (by omega)).mono ?_
 rintro e w' ⟨⟨y, rfl, hy⟩, hb⟩
 exact ⟨_, rfl, ⟨y, rfl, hy.go (fun g hg _ => ⟨rfl, hg.1⟩)⟩, hb⟩
theorem Ztw {w0 w : World} {t : Pt} {u : Value} (h : ThA w0 t u) (hnd : t.isNd = true) {ρ : Operand → Value} {o : Oper} (x : Operand) (ho : o.op = .typeAssert x 47 50 true) (hx : ρ x = u) : (execOp ρ o).run Tryz.prog w = .ok (.value (.tuple #[.agg (B8 z32), .bool false])) w := by
 unfold execOp
 rw [ho]
 simp only [hx]
 cases t with
 | no => cases hnd
 | st d => cases hnd
 | leaf p x => obtain ⟨_, _, _, _, _, _, rfl, _⟩ := h; kernel_rfl
 | ext p t => obtain ⟨_, _, _, _, rfl, _⟩ := h; kernel_rfl
 | br k x => obtain ⟨_, _, _, _, rfl, _⟩ := h; kernel_rfl
set_option maxHeartbeats 1000000 in
theorem Zyg {t : Pt} (h : ThA w t u) (ih : NdS t) : Calls Tryz.prog 22 #[u] w fun e w' => ∃ v', e = .returned v' ∧ REn w (encN (ndT t)) v' w' := by
 have hB : Bl w w := Bl.refl w
 refine Zaj Tryz.func22 rfl 12 rfl ?_
 show CW _ _ _ _ _ _ _ [(0, u)] _
 refine Zac ?_
 refine Zaa ?_
 refine rp 2 (.slice none 0 0) ?_
 refine Zad ?_
 refine Zab ?_
 refine Zac ?_
 refine Zaa ?_
 refine rp 6 (u) ?_
 refine Zak 7 45 #[u] (fun _ => by kernel_rfl) (fun _ => by kernel_rfl) (R := RNd w (ndT t)) (ih h) ?_
 rintro _ w2 ⟨⟨y1, rfl, hy3⟩, hb4⟩
 replace hB := hB.go hb4
 replace h := h.go hb4
 refine Zak 8 44 #[.agg (NV.cells y1).toArray] (fun _ => by kernel_rfl) (fun _ => by kernel_rfl) (R := fun v w' => (∃ a m c er, v = .tuple #[.slice a m c, .int .i64 er] ∧ Sk An w' a m c (encN (ndT t)) ∧ m ≤ 70000) ∧ Bl w2 w') (Zvq hy3) ?_
 rintro _ w9 ⟨⟨a5, n6, c7, er8, rfl, ha10, hn11⟩, hb12⟩
 replace hB := hB.go hb12
 replace h := h.go hb12
 refine rp 5 (.tuple #[.slice a5 n6 c7, .int .i64 er8]) ?_
 refine rp 9 (.slice a5 n6 c7) ?_
 refine rp 10 (.int .i64 er8) ?_
 refine rp 3 (.slice a5 n6 c7) ?_
 refine rp 4 (.int .i64 er8) ?_
 refine Zad ?_
 refine Zab ?_
 refine Zac ?_
 refine Zaa ?_
 refine rp 11 (.slice a5 n6 c7) ?_
 refine rp 2 (.slice a5 n6 c7) ?_
 refine Zad ?_
 refine Zab ?_
 refine Zap ?_
 refine Zae (.slice a5 n6 c7) (fun _ => by kernel_rfl) ?_
 exact ⟨_, rfl, ⟨_, _, _, rfl, ha10, hn11⟩, hB⟩
set_option maxHeartbeats 1000000 in
theorem Zxl  : Calls Tryz.prog 69 #[.nilIface] w fun e w' => ∃ v', e = .returned v' ∧ RRf w (rfT no) v' w' := by
 have hB : Bl w w := Bl.refl w
 refine Zaj Tryz.func69 rfl 16 rfl ?_
 show CW _ _ _ _ _ _ _ [(0, .nilIface)] _
 refine Zac ?_
 refine Zaa ?_
 refine Zar 2 ((RV.cells rz).toArray) 65 (fun _ => by kernel_rfl) (fun _ => by kernel_rfl) ?_
 intro w1 g2 hn3
 have hzg2 : w.heap.size ≤ g2 := by have := hB.size; have := hn3.hg; omega
 replace hB := hB.go hn3.below
 have hr4 : Rw g2 w1 ((RV.cells rz).toArray) 65 := hn3.row
 refine Zad ?_
 refine Zab ?_
 refine Zac ?_
 refine Zac ?_
 refine Zaa ?_
 refine rp 5 (.nilIface) ?_
 refine Zad ?_
 refine Zab ?_
 refine Zan ?_
 refine Zac ?_
 refine Zaa ?_
 refine rp 6 (.bool true) ?_
 refine Zad ?_
 refine Zab ?_
 refine Zai (fun _ => by kernel_rfl) ?_
 refine Zac ?_
 refine Zaa ?_
 refine rp 3 (.nilIface) ?_
 refine Zad ?_
 refine Zab ?_
 refine Zac ?_
 refine Zaa ?_
 refine rp 7 (.agg (RV.cells rz).toArray) ?_
 refine Zav g2 ((RV.cells rz).toArray) (fun _ => by kernel_rfl) (fun _ => Zao 65 _ _ _ _ _ 65 rfl (by kernel_rfl) (by kernel_rfl) hr4 (Zbw (show rz.d.length = 32 from rfl)) (Zbq (show rz.d.length = 32 from rfl)) (all_oneCell_toArray (RV.one _))) ?_
 intro w5 hp6
 replace hB := hB.tou hp6.touch hzg2
 replace hr4 : Rw g2 w5 ((RV.cells rz).toArray) 65 := hp6.row hr4
 refine Zad ?_
 refine Zab ?_
 refine Zap ?_
 refine Zaq ?_
 refine Zah ?_
 refine Zae (.agg ((RV.cells rz).toArray)) (fun _ => Zch rfl _ g2 _ (by kernel_rfl) hr4 Tryz.underlying65 rfl (Zbw (show rz.d.length = 32 from rfl))) ?_
 exact ⟨_, rfl, ⟨rz, rfl, Zu7 _ _⟩, hB⟩
set_option maxHeartbeats 1000000 in
theorem Zxk (hd : d.length = 32) (hdb : isB d)  : Calls Tryz.prog 69 #[.iface 50 (.agg (B8 d))] w fun e w' => ∃ v', e = .returned v' ∧ RRf w (rfT (st d)) v' w' := by
 have hB : Bl w w := Bl.refl w
 refine Zaj Tryz.func69 rfl 16 rfl ?_
 show CW _ _ _ _ _ _ _ [(0, .iface 50 (.agg (B8 d)))] _
 refine Zac ?_
 refine Zaa ?_
 refine Zar 2 ((RV.cells rz).toArray) 65 (fun _ => by kernel_rfl) (fun _ => by kernel_rfl) ?_
 intro w1 g2 hn3
 have hzg2 : w.heap.size ≤ g2 := by have := hB.size; have := hn3.hg; omega
 replace hB := hB.go hn3.below
 have hr4 : Rw g2 w1 ((RV.cells rz).toArray) 65 := hn3.row
 refine Zad ?_
 refine Zab ?_
 refine Zac ?_
 refine Zac ?_
 refine Zaa ?_
 refine rp 5 (.iface 50 (.agg (B8 d))) ?_
 refine Zad ?_
 refine Zab ?_
 refine Zan ?_
 refine Zac ?_
 refine Zaa ?_
 refine rp 6 (.bool false) ?_
 refine Zad ?_
 refine Zab ?_
 refine Zaf (fun _ => by kernel_rfl) ?_
 refine Zac ?_
 refine Zaa ?_
 refine rp 8 (.tuple #[.agg (B8 d), .bool true]) ?_
 refine rp 9 (.bool true) ?_
 refine rp 10 (.agg (B8 d)) ?_
 refine Zad ?_
 refine Zab ?_
 refine Zai (fun _ => by kernel_rfl) ?_
 refine Zac ?_
 refine Zaa ?_
 refine Zar 4 (B8 z32) 50 (fun _ => by kernel_rfl) (fun _ => by kernel_rfl) ?_
 intro w5 g6 hn7
 have hr8 : Rw g6 w5 (B8 z32) 50 := hn7.row
 refine Zav g6 (B8 d) (fun _ => by kernel_rfl) (fun _ => Zao 50 _ _ _ _ _ 50 rfl (by kernel_rfl) (by kernel_rfl) hr8 (Zb7 hd) ((B8_size _).trans ((show z32.length = 32 from rfl).trans (hd.symm.trans (B8_size _).symm))) (B8_one _)) ?_
 intro w9 hp10
 replace hn7 := hn7.put hp10
 clear hr8
 have hlg2g6 : g2 < g6 := by have := hr4.lt; have := hn7.hg; omega
 have hzg6 : w.heap.size ≤ g6 := by have := hB.size; have := hn7.hg; omega
 replace hB := hB.go hn7.below
 replace hr4 := hr4.go hn7.below
 have hr12 : Rw g6 w9 (B8 d) 50 := hn7.row
 refine Zad ?_
 refine Zab ?_
 refine Zac ?_
 refine Zaa ?_
 refine rv 11 (.agg (B8 d)) (fun _ => Za2 50 _ _ _ _ _ _ rfl (by kernel_rfl) hr12 Tryz.underlying50 rfl (Zb7 hd)) ?_
 refine rv 12 (.agg (RV.cells ⟨2, d, none, 0, 0⟩).toArray) (fun _ => Zbz 65 _ rfl [(0, .int .i64 2), (1, .agg (B8 d))] (by kernel_rfl) _ (Zkh d hd)) ?_
 refine Zav g2 ((RV.cells ⟨2, d, none, 0, 0⟩).toArray) (fun _ => by kernel_rfl) (fun _ => Zao 65 _ _ _ _ _ 65 rfl (by kernel_rfl) (by kernel_rfl) hr4 (Zbw hd) (Zbq hd) (all_oneCell_toArray (RV.one _))) ?_
 intro w13 hp14
 replace hB := hB.tou hp14.touch hzg2
 replace hr12 := hr12.past hp14.touch (by omega)
 replace hr4 : Rw g2 w13 ((RV.cells ⟨2, d, none, 0, 0⟩).toArray) 65 := hp14.row hr4
 refine Zad ?_
 refine Zab ?_
 refine Zap ?_
 refine Zaq ?_
 refine Zah ?_
 refine Zae (.agg ((RV.cells ⟨2, d, none, 0, 0⟩).toArray)) (fun _ => Zch rfl _ g2 _ (by kernel_rfl) hr4 Tryz.underlying65 rfl (Zbw hd)) ?_
 exact ⟨_, rfl, ⟨⟨2, d, none, 0, 0⟩, rfl, ⟨rfl, rfl, hdb, hd, Zf3 _ _⟩⟩, hB⟩
set_option maxHeartbeats 1000000 in
theorem Zoy {t : Pt} (h : ThA w t u) (hnd : t.isNd = true) (ih : EnS t)  : Calls Tryz.prog 69 #[u] w fun e w' => ∃ v', e = .returned v' ∧ RRf w (rfT t) v' w' := by
 have hB : Bl w w := Bl.refl w
 refine Zaj Tryz.func69 rfl 16 rfl ?_
 show CW _ _ _ _ _ _ _ [(0, u)] _
 have hnn : t.isNo = false := by cases t <;> first | rfl | cases hnd
 rw [Xb8 hnd]
 refine Zac ?_
 refine Zaa ?_
 refine Zar 2 ((RV.cells rz).toArray) 65 (fun _ => by kernel_rfl) (fun _ => by kernel_rfl) ?_
 intro w1 g2 hn3
 have hzg2 : w.heap.size ≤ g2 := by have := hB.size; have := hn3.hg; omega
 replace hB := hB.go hn3.below
 replace h := h.go hn3.below
 have hr4 : Rw g2 w1 ((RV.cells rz).toArray) 65 := hn3.row
 refine Zad ?_
 refine Zab ?_
 refine Zac ?_
 refine Zac ?_
 refine Zaa ?_
 refine rp 5 (u) ?_
 refine Zad ?_
 refine Zab ?_
 refine Zan ?_
 refine Zac ?_
 refine Zaa ?_
 refine rv 6 (.bool false) (fun _ => Zal (Zpk h 5 _ rfl (by kernel_rfl) rfl) (congrArg Value.bool hnn)) ?_
 refine Zad ?_
 refine Zab ?_
 refine Zaf (fun _ => by kernel_rfl) ?_
 refine Zac ?_
 refine Zaa ?_
 refine rv 8 (.tuple #[.agg (B8 z32), .bool false]) (fun _ => Ztw h hnd _ rfl (by kernel_rfl)) ?_
 refine rp 9 (.bool false) ?_
 refine rp 10 (.agg (B8 z32)) ?_
 refine Zad ?_
 refine Zab ?_
 refine Zaf (fun _ => by kernel_rfl) ?_
 refine Zam ?_
 refine Zau ?_
 refine Zab ?_
 refine Zac ?_
 refine Zaa ?_
 refine rp 13 (u) ?_
 refine Zak 14 22 #[u] (fun _ => by kernel_rfl) (fun _ => by kernel_rfl) (R := REn w1 (encN (ndT t))) (ih h) ?_
 rintro _ w8 ⟨⟨a5, n6, c7, rfl, ha9, hn10⟩, hb11⟩
 replace hB := hB.go hb11
 replace h := h.go hb11
 replace hr4 := hr4.go hb11
 have hrlt0 := hr4.lt
 refine Zak 15 102 #[.slice a5 n6 c7] (fun _ => by kernel_rfl) (fun _ => by kernel_rfl) (R := RRf w8 (referP (encN (ndT t)))) (Zr3 ha9 hn10) ?_
 rintro _ w13 ⟨⟨y12, rfl, hy14⟩, hb15⟩
 have hsz := hB.size
 replace hB := hB.go hb15
 replace h := h.go hb15
 replace hr4 := hr4.go hb15
 replace ha9 := ha9.go hb15
 have hrlt : g2 < (w8).heap.size := hrlt0
 refine Zav g2 ((RV.cells y12).toArray) (fun _ => by kernel_rfl) (fun _ => Zao 65 _ _ _ _ _ 65 rfl (by kernel_rfl) (by kernel_rfl) hr4 (Zbw hy14.len) (Zbq hy14.len) (all_oneCell_toArray (RV.one _))) ?_
 intro w9 hp9
 replace hB := hB.tou hp9.touch hzg2
 replace hr4 : Rw g2 w9 ((RV.cells y12).toArray) 65 := hp9.row hr4
 refine Zad ?_
 refine Zab ?_
 refine Zap ?_
 refine Zae (.agg ((RV.cells y12).toArray)) (fun _ => Zch rfl _ g2 _ (by kernel_rfl) hr4 Tryz.underlying65 rfl (Zbw hy14.len)) ?_
 exact ⟨_, rfl, ⟨y12, rfl, hy14.go (fun g hg hlt => ⟨hp9.other (by have := hrlt; omega), by omega⟩)⟩, hB⟩
set_option maxHeartbeats 1000000 in
theorem Zsr {b : Option Addr} {m d : Nat} (hp : Sk An w a n c p) (hx : Sk An w b m d x) (hm : m ≤ 256) (hn : n ≤ 140737488351232)  : Calls Tryz.prog 45 #[.iface 110 (.agg #[.slice a n c, .slice b m d])] w fun e w' => ∃ v', e = .returned v' ∧ RNd w (ndT (leaf p x)) v' w' := by
 have hpo : ∀ x, a = some x → 0 < n → x.block < w.heap.size := fun x hx hn => hp.old hx hn
 have hp0 := hp
 have hxo : ∀ x, b = some x → 0 < m → x.block < w.heap.size := fun x hx2 hn => hx.old hx2 hn
 have hx0 := hx
 have hB : Bl w w := Bl.refl w
 refine Zaj Tryz.func45 rfl 48 rfl ?_
 show CW _ _ _ _ _ _ _ [(0, .iface 110 (.agg #[.slice a n c, .slice b m d]))] _
 refine Zac ?_
 refine Zaa ?_
 refine Zar 2 ((NV.cells nz).toArray) 68 (fun _ => by kernel_rfl) (fun _ => by kernel_rfl) ?_
 intro w1 g2 hn3
 have hzg2 : w.heap.size ≤ g2 := by have := hB.size; have := hn3.hg; omega
 replace hB := hB.go hn3.below
 replace hp := hp.go hn3.below
 replace hx := hx.go hn3.below
 have hr4 : Rw g2 w1 ((NV.cells nz).toArray) 68 := hn3.row
 refine Zad ?_
 refine Zab ?_
 refine Zac ?_
 refine Zac ?_
 refine Zaa ?_
 refine rp 9 (.iface 110 (.agg #[.slice a n c, .slice b m d])) ?_
 refine Zad ?_
 refine Zab ?_
 refine Zan ?_
 refine Zac ?_
 refine Zaa ?_
 refine rp 10 (.tuple #[.agg #[.slice a n c, .slice b m d], .bool true]) ?_
 refine rp 11 (.bool true) ?_
 refine rp 12 (.agg #[.slice a n c, .slice b m d]) ?_
 refine Zad ?_
 refine Zab ?_
 refine Zai (fun _ => by kernel_rfl) ?_
 refine Zac ?_
 refine Zaa ?_
 refine Zar 3 (#[.slice none 0 0, .slice none 0 0]) 110 (fun _ => by kernel_rfl) (fun _ => by kernel_rfl) ?_
 intro w5 g6 hn7
 have hr8 : Rw g6 w5 (#[.slice none 0 0, .slice none 0 0]) 110 := hn7.row
 refine Zav g6 (#[.slice a n c, .slice b m d]) (fun _ => by kernel_rfl) (fun _ => Zao 110 _ _ _ _ _ 110 rfl (by kernel_rfl) (by kernel_rfl) hr8 (by kernel_rfl) (by kernel_rfl) (by kernel_rfl)) ?_
 intro w9 hp10
 replace hn7 := hn7.put hp10
 clear hr8
 have hlg2g6 : g2 < g6 := by have := hr4.lt; have := hn7.hg; omega
 have hzg6 : w.heap.size ≤ g6 := by have := hB.size; have := hn7.hg; omega
 replace hB := hB.go hn7.below
 replace hp := hp.go hn7.below
 replace hx := hx.go hn7.below
 replace hr4 := hr4.go hn7.below
 have hr12 : Rw g6 w9 (#[.slice a n c, .slice b m d]) 110 := hn7.row
 refine Zad ?_
 refine Zab ?_
 refine Zac ?_
 refine Zaa ?_
 refine rp 13 (.pointer (some ⟨g6, 0, none⟩)) ?_
 refine rv 14 (.slice a n c) (fun _ => Zag 29 _ ⟨g6, 0, none⟩ _ _ rfl (by kernel_rfl) (by rw [cell_of_row _ _ _ _ _ _ hr12]; rfl) Tryz.underlying29 rfl) ?_
 refine rp 15 (.pointer (some ⟨g6, 1, none⟩)) ?_
 refine rv 16 (.slice b m d) (fun _ => Zag 29 _ ⟨g6, 1, none⟩ _ _ rfl (by kernel_rfl) (by rw [cell_of_row _ _ _ _ _ _ hr12]; rfl) Tryz.underlying29 rfl) ?_
 refine rv 17 (.agg (NV.cells ⟨1, a, n, c, b, m, d, rz, none, 0, 0⟩).toArray) (fun _ => Zbz 68 _ rfl [(0, .int .i64 1), (1, .slice a n c), (2, .slice b m d)] (by kernel_rfl) _ (Zmx _ _ _ _ _ _)) ?_
 refine Zav g2 ((NV.cells ⟨1, a, n, c, b, m, d, rz, none, 0, 0⟩).toArray) (fun _ => by kernel_rfl) (fun _ => Zao 68 _ _ _ _ _ 68 rfl (by kernel_rfl) (by kernel_rfl) hr4 (Zbj (show rz.d.length = 32 from rfl)) (Zbe (show rz.d.length = 32 from rfl)) (all_oneCell_toArray (NV.one _))) ?_
 intro w9 hp9
 have hpv := hp0.go hB
 have hxv := hx0.go hB
 replace hB := hB.tou hp9.touch hzg2
 replace hr4 : Rw g2 w9 ((NV.cells ⟨1, a, n, c, b, m, d, rz, none, 0, 0⟩).toArray) 68 := hp9.row hr4
 refine Zad ?_
 refine Zab ?_
 refine Zap ?_
 refine Zaq ?_
 refine Zah ?_
 refine Zae (.agg ((NV.cells ⟨1, a, n, c, b, m, d, rz, none, 0, 0⟩).toArray)) (fun _ => Zch rfl _ g2 _ (by kernel_rfl) hr4 Tryz.underlying68 rfl (Zbj (show rz.d.length = 32 from rfl))) ?_
 have hkp : ∀ {v9 : World}, Put v9 w9 g2 ((NV.cells ⟨1, a, n, c, b, m, d, rz, none, 0, 0⟩).toArray) → Keep (fun b => b ≠ g2) An v9 w9 := fun hp b hb _ => ⟨hp.other hb, trivial⟩
 exact ⟨_, rfl, ⟨⟨1, a, n, c, b, m, d, rz, none, 0, 0⟩, rfl, NodeAt.go (hkp hp9) (show NodeAt (fun b => b ≠ g2) _ ⟨1, a, n, c, b, m, d, rz, none, 0, 0⟩ (ndT (leaf p x)) from ⟨rfl, Zm1 hpv hpo hzg2 hn, Zm1 hxv hxo hzg2 (show m ≤ _ by omega), Zu7 _ _, ⟨rfl, Nat.le_refl _, Nat.zero_le _, by show 0 ≤ _; omega, fun _ => ⟨rfl, rfl⟩⟩, fun j r h => by simp [ndT] at h⟩)⟩, hB⟩
set_option maxHeartbeats 1000000 in
theorem Zvr {t : Pt} (hp : Sk An w a n c p) (hn : n ≤ 140737488351232) (ht : ThA w t u) (ih : RfS t)  : Calls Tryz.prog 45 #[.iface 113 (.agg #[.slice a n c, u])] w fun e w' => ∃ v', e = .returned v' ∧ RNd w (ndT (ext p t)) v' w' := by
 have hpo : ∀ x, a = some x → 0 < n → x.block < w.heap.size := fun x hx hn => hp.old hx hn
 have hp0 := hp
 have hB : Bl w w := Bl.refl w
 refine Zaj Tryz.func45 rfl 48 rfl ?_
 show CW _ _ _ _ _ _ _ [(0, .iface 113 (.agg #[.slice a n c, u]))] _
 refine Zac ?_
 refine Zaa ?_
 refine Zar 2 ((NV.cells nz).toArray) 68 (fun _ => by kernel_rfl) (fun _ => by kernel_rfl) ?_
 intro w1 g2 hn3
 have hzg2 : w.heap.size ≤ g2 := by have := hB.size; have := hn3.hg; omega
 replace hB := hB.go hn3.below
 replace hp := hp.go hn3.below
 replace ht := ht.go hn3.below
 have hr4 : Rw g2 w1 ((NV.cells nz).toArray) 68 := hn3.row
 refine Zad ?_
 refine Zab ?_
 refine Zac ?_
 refine Zac ?_
 refine Zaa ?_
 refine rp 9 (.iface 113 (.agg #[.slice a n c, u])) ?_
 refine Zad ?_
 refine Zab ?_
 refine Zan ?_
 refine Zac ?_
 refine Zaa ?_
 refine rp 10 (.tuple #[.agg (#[.slice none 0 0, .slice none 0 0]), .bool false]) ?_
 refine rp 11 (.bool false) ?_
 refine rp 12 (.agg (#[.slice none 0 0, .slice none 0 0])) ?_
 refine Zad ?_
 refine Zab ?_
 refine Zaf (fun _ => by kernel_rfl) ?_
 refine Zac ?_
 refine Zaa ?_
 refine rp 18 (.tuple #[.agg #[.slice a n c, u], .bool true]) ?_
 refine rp 19 (.bool true) ?_
 refine rp 20 (.agg #[.slice a n c, u]) ?_
 refine Zad ?_
 refine Zab ?_
 refine Zai (fun _ => by kernel_rfl) ?_
 refine Zac ?_
 refine Zaa ?_
 refine Zar 4 (#[.slice none 0 0, .nilIface]) 113 (fun _ => by kernel_rfl) (fun _ => by kernel_rfl) ?_
 intro w5 g6 hn7
 have hr8 : Rw g6 w5 (#[.slice none 0 0, .nilIface]) 113 := hn7.row
 refine Zav g6 (#[.slice a n c, u]) (fun _ => by kernel_rfl) (fun _ => Zao 113 _ _ _ _ _ 113 rfl (by kernel_rfl) (by kernel_rfl) hr8 (by kernel_rfl) (by kernel_rfl) (one2 rfl ht.one)) ?_
 intro w9 hp10
 replace hn7 := hn7.put hp10
 clear hr8
 have hlg2g6 : g2 < g6 := by have := hr4.lt; have := hn7.hg; omega
 have hzg6 : w.heap.size ≤ g6 := by have := hB.size; have := hn7.hg; omega
 replace hB := hB.go hn7.below
 replace hp := hp.go hn7.below
 replace ht := ht.go hn7.below
 replace hr4 := hr4.go hn7.below
 have hr12 : Rw g6 w9 (#[.slice a n c, u]) 113 := hn7.row
 refine Zad ?_
 refine Zab ?_
 refine Zac ?_
 refine Zbd (fun v => Rw g6 v (#[.slice a n c, u]) 113) (by kernel_rfl) (hr12) ?_
 replace hB := hB.go (Below.refl _ _).drew
 replace hp := hp.go (Below.refl _ _).drew
 replace ht := ht.go (Below.refl _ _).drew
 replace hr4 := hr4.go (Below.refl _ _).drew
 replace hr12 := hr12.go (Below.refl _ _).drew
 refine dt 0 21 (.pointer (some ⟨g6, 0, none⟩)) (fun v hv _ => by kernel_rfl) hr12 ?_
 refine dt 1 22 (.slice a n c) (fun v hv _ => Zag 29 _ ⟨g6, 0, none⟩ _ _ rfl (by kernel_rfl) (by rw [cell_of_row _ _ _ _ _ _ hv]; rfl) Tryz.underlying29 rfl) hr12 ?_
 refine dt 2 23 (.pointer (some ⟨g6, 1, none⟩)) (fun v hv _ => by kernel_rfl) hr12 ?_
 refine dt 3 24 (u) (fun v hv _ => Zag 47 _ ⟨g6, 1, none⟩ _ _ rfl (by kernel_rfl) (by rw [cell_of_row _ _ _ _ _ _ hv]; rfl) Tryz.underlying47 rfl) hr12 ?_
 refine Zas [4] (by kernel_rfl) (by simp) ?_
 have hg2lt0 := hr4.lt
 refine Za5 4 25 69 #[u] rfl (fun _ => by kernel_rfl) (fun _ => by kernel_rfl) (R := RRf w9.drew (rfT t)) (ih ht) (fun u w' h9 => hr12.go h9.2) ?_ Zaz
 rintro _ w14 ⟨⟨y13, rfl, hy15⟩, hb16⟩
 have hg2lt := hg2lt0
 replace hB := hB.go hb16
 replace hp := hp.go hb16
 replace ht := ht.go hb16
 replace hr4 := hr4.go hb16
 replace hr12 := hr12.go hb16
 refine dt 5 26 (.agg (NV.cells ⟨2, a, n, c, none, 0, 0, y13, none, 0, 0⟩).toArray) (fun v hv => (fun _ => Zbz 68 _ rfl [(0, .int .i64 2), (1, .slice a n c), (3, .agg (RV.cells y13).toArray)] (by kernel_rfl) _ (Zi6 _ _ _ y13 hy15.len))) hr12 ?_
 refine Zas [6] (by kernel_rfl) (by simp) ?_
 refine Zuh 6 g2 ((NV.cells ⟨2, a, n, c, none, 0, 0, y13, none, 0, 0⟩).toArray) rfl (fun _ => by kernel_rfl) (fun _ => Zao 68 _ _ _ _ _ 68 rfl (by kernel_rfl) (by kernel_rfl) hr4 (Zbj hy15.len) (Zbe hy15.len) (all_oneCell_toArray (NV.one _))) (fun w' hp => hr12.past hp.touch (by omega)) ?_ Zaz
 intro w9 hp9
 have hpv := hp0.go hB
 replace hB := hB.tou hp9.touch hzg2
 replace hr4 : Rw g2 w9 ((NV.cells ⟨2, a, n, c, none, 0, 0, y13, none, 0, 0⟩).toArray) 68 := hp9.row hr4
 refine Za6 (by kernel_rfl) ?_
 refine Zab ?_
 refine Zap ?_
 refine Zaq ?_
 refine Zah ?_
 refine Zae (.agg ((NV.cells ⟨2, a, n, c, none, 0, 0, y13, none, 0, 0⟩).toArray)) (fun _ => Zch rfl _ g2 _ (by kernel_rfl) hr4 Tryz.underlying68 rfl (Zbj hy15.len)) ?_
 have hkp : ∀ {v9 : World}, Put v9 w9 g2 ((NV.cells ⟨2, a, n, c, none, 0, 0, y13, none, 0, 0⟩).toArray) → Keep (fun b => b ≠ g2) An v9 w9 := fun hp b hb _ => ⟨hp.other hb, trivial⟩
 exact ⟨_, rfl, ⟨⟨2, a, n, c, none, 0, 0, y13, none, 0, 0⟩, rfl, NodeAt.go (hkp hp9) (show NodeAt (fun b => b ≠ g2) _ ⟨2, a, n, c, none, 0, 0, y13, none, 0, 0⟩ (ndT (ext p t)) from ⟨rfl, Zm1 hpv hpo hzg2 hn, Zf3 _ _, hy15.go (fun b hb _ => ⟨rfl, by omega⟩), ⟨rfl, Nat.le_refl _, Nat.zero_le _, by show 0 ≤ _; omega, fun _ => ⟨rfl, rfl⟩⟩, fun j r h => by simp [ndT] at h⟩)⟩, hB⟩
set_option maxHeartbeats 1000000 in
theorem Zxz {vs : Nat → Value} {k : Nat → Pt} (hk : KA w k vs) (hx : Sk An w a n c x) (hn : n ≤ 256) (ih : ∀ i, i < 16 → RfS (k i))  : Calls Tryz.prog 45 #[.iface 116 (.agg (brc vs (.slice a n c)))] w fun e w' => ∃ v', e = .returned v' ∧ RNd w (ndT (br k x)) v' w' := by
 have hxo : ∀ x, a = some x → 0 < n → x.block < w.heap.size := fun x hx2 hn => hx.old hx2 hn
 have hx0 := hx
 have hk0 := hk
 have hB : Bl w w := Bl.refl w
 refine Zaj Tryz.func45 rfl 48 rfl ?_
 show CW _ _ _ _ _ _ _ [(0, .iface 116 (.agg (brc vs (.slice a n c))))] _
 refine Zac ?_
 refine Zaa ?_
 refine Zar 2 ((NV.cells nz).toArray) 68 (fun _ => by kernel_rfl) (fun _ => by kernel_rfl) ?_
 intro w1 g2 hn3
 have hzg2 : w.heap.size ≤ g2 := by have := hB.size; have := hn3.hg; omega
 replace hB := hB.go hn3.below
 replace hk := hk.go hn3.below
 replace hx := hx.go hn3.below
 have hr4 : Rw g2 w1 ((NV.cells nz).toArray) 68 := hn3.row
 refine Zad ?_
 refine Zab ?_
 refine Zac ?_
 refine Zac ?_
 refine Zaa ?_
 refine rp 9 (.iface 116 (.agg (brc vs (.slice a n c)))) ?_
 refine Zad ?_
 refine Zab ?_
 refine Zan ?_
 refine Zac ?_
 refine Zaa ?_
 refine rp 10 (.tuple #[.agg (#[.slice none 0 0, .slice none 0 0]), .bool false]) ?_
 refine rp 11 (.bool false) ?_
 refine rp 12 (.agg (#[.slice none 0 0, .slice none 0 0])) ?_
 refine Zad ?_
 refine Zab ?_
 refine Zaf (fun _ => by kernel_rfl) ?_
 refine Zac ?_
 refine Zaa ?_
 refine rp 18 (.tuple #[.agg (#[.slice none 0 0, .nilIface]), .bool false]) ?_
 refine rp 19 (.bool false) ?_
 refine rp 20 (.agg (#[.slice none 0 0, .nilIface])) ?_
 refine Zad ?_
 refine Zab ?_
 refine Zaf (fun _ => by kernel_rfl) ?_
 refine Zac ?_
 refine Zaa ?_
 refine rp 27 (.tuple #[.agg (brc vs (.slice a n c)), .bool true]) ?_
 refine rp 28 (.bool true) ?_
 refine rp 29 (.agg (brc vs (.slice a n c))) ?_
 refine Zad ?_
 refine Zab ?_
 refine Zai (fun _ => by kernel_rfl) ?_
 refine Zac ?_
 refine Zaa ?_
 refine Zar 5 (brc (fun _ => .nilIface) (.slice none 0 0)) 116 (fun _ => by kernel_rfl) (fun _ => by kernel_rfl) ?_
 intro w5 g6 hn7
 have hr8 : Rw g6 w5 (brc (fun _ => .nilIface) (.slice none 0 0)) 116 := hn7.row
 refine Zav g6 (brc vs (.slice a n c)) (fun _ => by kernel_rfl) (fun _ => Zao 116 _ _ _ _ _ 116 rfl (by kernel_rfl) (by kernel_rfl) hr8 (by kernel_rfl) (by kernel_rfl) (Zbl hk)) ?_
 intro w9 hp10
 replace hn7 := hn7.put hp10
 clear hr8
 have hlg2g6 : g2 < g6 := by have := hr4.lt; have := hn7.hg; omega
 have hzg6 : w.heap.size ≤ g6 := by have := hB.size; have := hn7.hg; omega
 replace hB := hB.go hn7.below
 replace hk := hk.go hn7.below
 replace hx := hx.go hn7.below
 replace hr4 := hr4.go hn7.below
 have hr12 : Rw g6 w9 (brc vs (.slice a n c)) 116 := hn7.row
 refine Zad ?_
 refine Zab ?_
 refine Zac ?_
 refine Zaa ?_
 have hg2l := hr4.lt
 have hg5l := hr12.lt
 refine Zcg 30 kz 65 16 (fun _ => by kernel_rfl) (fun _ => by kernel_rfl) ?_
 intro w13 gR hnR
 have hzR : w.heap.size ≤ gR := by have := hB.size; have := hnR.hg; omega
 have hgR := hnR.hg
 replace hB := hB.go hnR.below
 replace hk := hk.go hnR.below
 replace hx := hx.go hnR.below
 replace hr4 := hr4.go hnR.below
 replace hr12 := hr12.go hnR.below
 have hKr := Kr.new hnR
 refine rp 6 (.slice (some ⟨gR, 0, none⟩) 16 16) ?_
 refine Zad ?_
 refine Zab ?_
 refine Zac ?_
 refine Zac ?_
 refine Zaa ?_
 refine rp 31 (.pointer (some ⟨g6, 0, none⟩)) ?_
 refine rv 32 (.agg (bra vs)) (fun _ => Zpn hr12 _ rfl (by kernel_rfl)) ?_
 refine rp 33 (.int .i64 0) ?_
 refine Zad ?_
 refine Zab ?_
 refine Zan ?_
 have hne2 : g2 ≠ gR ∧ g6 ≠ gR ∧ g2 ≠ g6 := by omega
 refine Zb8 (X := Nat × (Nat → RV)) (fun x => [(33, .int .i64 ((x.1 : Nat) : Int)), (32, .agg (bra vs)), (6, .slice (some ⟨gR, 0, none⟩) 16 16), (5, .pointer (some ⟨g6, 0, none⟩)), (2, .pointer (some ⟨g2, 0, none⟩))]) (fun x v => Bl w v ∧ Rw g2 v (NV.cells nz).toArray 68 ∧ Rw g6 v (brc vs (.slice a n c)) 116 ∧ Kr gR v x.2 ∧ x.1 ≤ 16 ∧ ∀ i, i < x.1 → RefAt (fun b => b ≠ g2 ∧ b ≠ gR) v (x.2 i) (rfT (k i))) (fun x => 16 - x.1) (0, fun _ => rz) (by exact ⟨fun _ => by kernel_rfl, ⟨fun _ => by kernel_rfl, ⟨fun _ => by kernel_rfl, ⟨fun _ => by kernel_rfl, ⟨fun _ => by kernel_rfl, trivial⟩⟩⟩⟩⟩) ⟨hB, hr4, hr12, hKr, Nat.zero_le _, fun i hi => by omega⟩ ?_
 clear hB hKr hk hx hr4 hr12
 rintro ⟨j, ys⟩ v ⟨hB, hr2, hr5, hKr, hj, hR⟩
 simp only at *
 show CW _ _ _ _ _ _ _ [(33, .int .i64 ((j : Nat) : Int)), (32, .agg (bra vs)), (6, .slice (some ⟨gR, 0, none⟩) 16 16), (5, .pointer (some ⟨g6, 0, none⟩)), (2, .pointer (some ⟨g2, 0, none⟩))] _
 by_cases hlt : j < 16
 ·skip
  have hkj := (hk0.go hB) j hlt
  have hv2 := hr2.lt
  have hvR := hKr.lt
  refine Zac ?_
  refine Zaa ?_
  refine rv 34 (.bool true) (fun _ => Zal (v := .bool (decide (((j : Nat) : Int) < (16 : Int)))) (by kernel_rfl) (congrArg Value.bool (decide_eq_true (by omega)))) ?_
  refine Zad ?_
  refine Zab ?_
  refine Zac ?_
  refine Zai (fun _ => by kernel_rfl) ?_
  refine Zam ?_
  refine Zab ?_
  refine Zac ?_
  refine Zan ?_
  refine Zac ?_
  refine Zaa ?_
  refine rp 35 (.int .i64 ((j : Nat) : Int)) ?_
  refine rv 36 (vs j) (fun _ => Zpj _ _ vs j hlt rfl (by kernel_rfl) (by kernel_rfl)) ?_
  refine rp 7 (.int .i64 ((j : Nat) : Int)) ?_
  refine rp 8 (vs j) ?_
  refine Zad ?_
  refine Zab ?_
  refine Zaa ?_
  refine rp 37 (.slice (some ⟨gR, 0, none⟩) 16 16) ?_
  refine rp 38 (.int .i64 ((j : Nat) : Int)) ?_
  refine rp 39 (vs j) ?_
  refine Zak 40 69 #[vs j] (fun _ => by kernel_rfl) (fun _ => by kernel_rfl) (R := RRf v (rfT (k j))) (ih j hlt hkj) ?_
  rintro _ w15 ⟨⟨y14, rfl, hy16⟩, hb17⟩
  replace hR : ∀ i, i < j → RefAt (fun b => b ≠ g2 ∧ b ≠ gR) w15 (ys i) (rfT (k i)) := fun i hi => (hR i hi).go (Keep.below hb17)
  replace hB := hB.go hb17
  replace hr2 := hr2.go hb17
  replace hr5 := hr5.go hb17
  replace hKr := hKr.go hb17
  replace hkj := hkj.go hb17
  refine rv 41 (.pointer (some ⟨gR, 0 + j * 34, none⟩)) (fun _ => Za0 66 _ _ gR 0 j 16 16 34 65 rfl (by kernel_rfl) (by kernel_rfl) hlt Tryz.underlying66 (by kernel_rfl)) ?_
  refine rw_s (fun _ => by kernel_rfl) (fun _ => Zph _ _ hKr hlt hy16.len rfl (by kernel_rfl) (by kernel_rfl)) ?_
  have hst := St.of w15 gR (0 + j * 34) (RV.cells y14)
  have hKr9 := hKr.put hlt hy16.len
  obtain ⟨w9, hw9⟩ : ∃ w9, (w15).setCells gR (0 + j * 34) (RV.cells y14) = w9 := ⟨_, rfl⟩
  rw [hw9] at hst hKr9 ⊢
  have ht9 : Touch gR w15 w9 := ⟨hst.os, hst.tape, hst.output, by rw [hst.size]; exact Nat.le_refl _, fun k9 _ h9 => hst.other k9 h9⟩
  replace hB := hB.tou ht9 hzR
  replace hr2 : Rw g2 w9 (NV.cells nz).toArray 68 := (hst.other _ hne2.1).trans hr2
  replace hr5 : Rw g6 w9 (brc vs (.slice a n c)) 116 := (hst.other _ hne2.2.1).trans hr5
  have hR9 : ∀ i, i < j + 1 → RefAt (fun b => b ≠ g2 ∧ b ≠ gR) w9 (updR ys j y14 i) (rfT (k i)) := fun i hi => by
   unfold updR
   by_cases e : i = j
   ·rw [if_pos e, e]; exact hy16.go (fun b hb _ => ⟨hst.other b (by omega), by omega, by omega⟩)
   ·rw [if_neg e]; exact (hR i (by omega)).go (fun b hb _ => ⟨hst.other b hb.2, hb⟩)
  refine Zad ?_
  refine Zau ?_
  refine Zab ?_
  refine Zaa ?_
  refine rv 42 (.int .i64 ((j + 1 : Nat) : Int)) (fun _ => Zal (v := .int .i64 (IntKind.i64.wrap (((j : Nat) : Int) + (1 : Int)))) (by kernel_rfl) (congrArg (Value.int .i64) ((Zbc (by omega) (by omega)).trans (by omega)))) ?_
  refine rp 33 (.int .i64 ((j + 1 : Nat) : Int)) ?_
  refine Zad ?_
  exact Za7 (E := fun x => [(33, .int .i64 ((x.1 : Nat) : Int)), (32, .agg (bra vs)), (6, .slice (some ⟨gR, 0, none⟩) 16 16), (5, .pointer (some ⟨g6, 0, none⟩)), (2, .pointer (some ⟨g2, 0, none⟩))]) (R := fun x v => Bl w v ∧ Rw g2 v (NV.cells nz).toArray 68 ∧ Rw g6 v (brc vs (.slice a n c)) 116 ∧ Kr gR v x.2 ∧ x.1 ≤ 16 ∧ ∀ i, i < x.1 → RefAt (fun b => b ≠ g2 ∧ b ≠ gR) v (x.2 i) (rfT (k i))) (μ := fun x => 16 - x.1) (x := (j, ys)) (j + 1, (updR ys j y14)) (by exact ⟨fun _ => by kernel_rfl, ⟨fun _ => by kernel_rfl, ⟨fun _ => by kernel_rfl, ⟨fun _ => by kernel_rfl, ⟨fun _ => by kernel_rfl, trivial⟩⟩⟩⟩⟩) ⟨hB, hr2, hr5, hKr9, by simp only; omega, hR9⟩ (by simp only; omega)
 obtain rfl : j = 16 := by omega
 refine Zac ?_
 refine Zaa ?_
 refine rv 34 (.bool false) (fun _ => Zal (v := .bool (decide (((16 : Nat) : Int) < (16 : Int)))) (by kernel_rfl) (congrArg Value.bool (decide_eq_false (by omega)))) ?_
 refine Zad ?_
 refine Zab ?_
 refine Zac ?_
 refine Zaf (fun _ => by kernel_rfl) ?_
 refine Zb1 ?_
 refine Zat ?_
 refine Zat ?_
 refine Za1 ?_
 refine Zab ?_
 refine Zac ?_
 refine Zaa ?_
 refine rp 43 (.slice (some ⟨gR, 0, none⟩) 16 16) ?_
 refine rp 44 (.pointer (some ⟨g6, 16, none⟩)) ?_
 refine rv 45 (.slice a n c) (fun _ => Zag 29 _ ⟨g6, 16, none⟩ _ _ rfl (by kernel_rfl) (by rw [cell_of_row _ _ _ _ _ _ hr5]; rfl) Tryz.underlying29 rfl) ?_
 refine rp 46 (.agg (NV.cells ⟨3, none, 0, 0, a, n, c, rz, (some ⟨gR, 0, none⟩), 16, 16⟩).toArray) ?_
 refine Zav g2 ((NV.cells ⟨3, none, 0, 0, a, n, c, rz, (some ⟨gR, 0, none⟩), 16, 16⟩).toArray) (fun _ => by kernel_rfl) (fun _ => Zao 68 _ _ _ _ _ 68 rfl (by kernel_rfl) (by kernel_rfl) hr2 (Zbj (show rz.d.length = 32 from rfl)) (Zbe (show rz.d.length = 32 from rfl)) (all_oneCell_toArray (NV.one _))) ?_
 intro w9 hp9
 have hxv := hx0.go hB
 replace hB := hB.tou hp9.touch hzg2
 replace hr2 : Rw g2 w9 ((NV.cells ⟨3, none, 0, 0, a, n, c, rz, (some ⟨gR, 0, none⟩), 16, 16⟩).toArray) 68 := hp9.row hr2
 refine Zad ?_
 refine Zab ?_
 refine Zap ?_
 refine Zaq ?_
 refine Zah ?_
 refine Zae (.agg ((NV.cells ⟨3, none, 0, 0, a, n, c, rz, (some ⟨gR, 0, none⟩), 16, 16⟩).toArray)) (fun _ => Zch rfl _ g2 _ (by kernel_rfl) hr2 Tryz.underlying68 rfl (Zbj (show rz.d.length = 32 from rfl))) ?_
 have hkp : ∀ {v9 : World}, Put v9 w9 g2 ((NV.cells ⟨3, none, 0, 0, a, n, c, rz, (some ⟨gR, 0, none⟩), 16, 16⟩).toArray) → Keep (fun b => b ≠ g2) An v9 w9 := fun hp b hb _ => ⟨hp.other hb, trivial⟩
 refine ⟨_, rfl, ⟨⟨3, none, 0, 0, a, n, c, rz, (some ⟨gR, 0, none⟩), 16, 16⟩, rfl, NodeAt.go (hkp hp9) (show NodeAt (fun b => b ≠ g2) _ ⟨3, none, 0, 0, a, n, c, rz, (some ⟨gR, 0, none⟩), 16, 16⟩ (ndT (br k x)) from ⟨rfl, Zf3 _ _, Zm1 hxv hxo hzg2 (show n ≤ _ by omega), Zu7 _ _, ⟨rfl, Nat.le_refl _, by show 16 ≤ maxLen; unfold maxLen; omega, by show 16 ≤ _; omega, fun e => by cases e⟩, fun j r h => ?_⟩)⟩, hB⟩
 have hj16 : j < 16 := by have := (List.getElem?_eq_some_iff.1 h).1; simpa [ndT] using this
 have hrj : r = rfT (k j) := by have : ((List.range 16).map fun i => rfT (k i))[j]? = some r := h; rw [List.getElem?_map, List.getElem?_range hj16] at this; exact (Option.some.inj this).symm
 rw [hrj]
 exact ⟨gR, 0, ys j, rfl, Ne.symm hne2.1, hKr.rng j hj16, (hR j hj16).go (fun b hb _ => ⟨rfl, hb.1⟩)⟩
theorem Zpx (p x : List Int) : NdS (leaf p x) := fun h => by
  obtain ⟨a, n, c, b, m, d, rfl, hp, hx, hm, hn⟩ := h
  exact Zsr hp hx hm hn
theorem Zmq {t : Pt} (h : NdS t) : EnS t := fun h2 => Zyg h2 h
theorem Zxm (t : Pt) : RfS t ∧ (t.isNd = true → NdS t) := by
 induction t with
 | no => exact ⟨fun h => by obtain rfl := h; exact Zxl, fun h => by cases h⟩
 | st d => exact ⟨fun h => by obtain ⟨rfl, hd, hb⟩ := h; exact Zxk hd hb, fun h => by cases h⟩
 | leaf p x => exact ⟨fun h => Zoy h rfl (Zmq (Zpx p x)), fun _ => Zpx p x⟩
 | ext p t ih =>
  have hN : NdS (ext p t) := fun h => by
   obtain ⟨a, n, c, u, rfl, hp, hn, ht⟩ := h
   exact Zvr hp hn ht ih.1
  exact ⟨fun h => Zoy h rfl (Zmq hN), fun _ => hN⟩
 | br k x ih =>
  have hN : NdS (br k x) := fun h => by
   obtain ⟨vs, a, n, c, rfl, hk, hx, hn⟩ := h
   exact Zxz hk hx hn (fun i _ => (ih i).1)
  exact ⟨fun h => Zoy h rfl (Zmq hN), fun _ => hN⟩
theorem Zyi {t : Pt} (h : t.isNd = true) : EnS t := Zmq ((Zxm t).2 h)
theorem Zhr {t : Pt} {v : Value} (h : ThA w t v) : (rtP t).length = 32 := by
 cases t with
 | no => exact Di.dref_len _
 | st d => exact h.2.1
 | leaf p x => rw [Zot rfl]; exact Di.dref_len _
 | ext p t => rw [Zot rfl]; exact Di.dref_len _
 | br k x => rw [Zot rfl]; exact Di.dref_len _
set_option maxHeartbeats 1000000 in
theorem Zxf  : Calls Tryz.prog 25 #[.nilIface] w fun e w' => ∃ v', e = .returned v' ∧ RVl w (.agg (B8 (rtP no))) v' w' := by
 have hB : Bl w w := Bl.refl w
 refine Zaj Tryz.func25 rfl 15 rfl ?_
 show CW _ _ _ _ _ _ _ [(0, .nilIface)] _
 refine Zac ?_
 refine Zaa ?_
 refine Zar 2 (B8 z32) 23 (fun _ => by kernel_rfl) (fun _ => by kernel_rfl) ?_
 intro w1 g2 hn3
 have hzg2 : w.heap.size ≤ g2 := by have := hB.size; have := hn3.hg; omega
 replace hB := hB.go hn3.below
 have hr4 : Rw g2 w1 (B8 z32) 23 := hn3.row
 refine Zad ?_
 refine Zab ?_
 refine Zac ?_
 refine Zac ?_
 refine Zaa ?_
 refine rp 5 (.nilIface) ?_
 refine Zad ?_
 refine Zab ?_
 refine Zan ?_
 refine Zac ?_
 refine Zaa ?_
 refine rp 6 (.bool true) ?_
 refine Zad ?_
 refine Zab ?_
 refine Zai (fun _ => by kernel_rfl) ?_
 refine Zac ?_
 refine Zaa ?_
 refine rp 3 (.nilIface) ?_
 refine Zad ?_
 refine Zab ?_
 refine Zac ?_
 refine Zaa ?_
 refine Zak 7 15 #[] (fun _ => by kernel_rfl) (fun _ => by kernel_rfl) (R := RVl w1 (.agg (B8 (dref [128])))) (Ziz w1) ?_
 rintro _ w5 ⟨rfl, hb6⟩
 replace hB := hB.go hb6
 replace hr4 := hr4.go hb6
 refine Zav g2 (B8 (dref [128])) (fun _ => by kernel_rfl) (fun _ => Zao 23 _ _ _ _ _ 23 rfl (by kernel_rfl) (by kernel_rfl) hr4 (Zbm (Di.dref_len _)) ((B8_size _).trans ((show z32.length = 32 from rfl).trans ((Di.dref_len _).symm.trans (B8_size _).symm))) (B8_one _)) ?_
 intro w7 hp8
 replace hB := hB.tou hp8.touch hzg2
 replace hr4 : Rw g2 w7 (B8 (dref [128])) 23 := hp8.row hr4
 refine Zad ?_
 refine Zab ?_
 refine Zap ?_
 refine Zaq ?_
 refine Zah ?_
 refine Zae (.agg (B8 (dref [128]))) (fun _ => Zch rfl _ g2 _ (by kernel_rfl) hr4 Tryz.underlying23 rfl (Zbm (Di.dref_len _))) ?_
 exact ⟨_, rfl, rfl, hB⟩
set_option maxHeartbeats 1000000 in
theorem Zxe (hd : d.length = 32)  : Calls Tryz.prog 25 #[.iface 50 (.agg (B8 d))] w fun e w' => ∃ v', e = .returned v' ∧ RVl w (.agg (B8 (rtP (st d)))) v' w' := by
 have hB : Bl w w := Bl.refl w
 refine Zaj Tryz.func25 rfl 15 rfl ?_
 show CW _ _ _ _ _ _ _ [(0, .iface 50 (.agg (B8 d)))] _
 refine Zac ?_
 refine Zaa ?_
 refine Zar 2 (B8 z32) 23 (fun _ => by kernel_rfl) (fun _ => by kernel_rfl) ?_
 intro w1 g2 hn3
 have hzg2 : w.heap.size ≤ g2 := by have := hB.size; have := hn3.hg; omega
 replace hB := hB.go hn3.below
 have hr4 : Rw g2 w1 (B8 z32) 23 := hn3.row
 refine Zad ?_
 refine Zab ?_
 refine Zac ?_
 refine Zac ?_
 refine Zaa ?_
 refine rp 5 (.iface 50 (.agg (B8 d))) ?_
 refine Zad ?_
 refine Zab ?_
 refine Zan ?_
 refine Zac ?_
 refine Zaa ?_
 refine rp 6 (.bool false) ?_
 refine Zad ?_
 refine Zab ?_
 refine Zaf (fun _ => by kernel_rfl) ?_
 refine Zac ?_
 refine Zaa ?_
 refine rp 8 (.tuple #[.agg (B8 d), .bool true]) ?_
 refine rp 9 (.bool true) ?_
 refine rp 10 (.agg (B8 d)) ?_
 refine Zad ?_
 refine Zab ?_
 refine Zai (fun _ => by kernel_rfl) ?_
 refine Zac ?_
 refine Zaa ?_
 refine Zar 4 (B8 z32) 50 (fun _ => by kernel_rfl) (fun _ => by kernel_rfl) ?_
 intro w5 g6 hn7
 have hr8 : Rw g6 w5 (B8 z32) 50 := hn7.row
 refine Zav g6 (B8 d) (fun _ => by kernel_rfl) (fun _ => Zao 50 _ _ _ _ _ 50 rfl (by kernel_rfl) (by kernel_rfl) hr8 (Zb7 hd) ((B8_size _).trans ((show z32.length = 32 from rfl).trans (hd.symm.trans (B8_size _).symm))) (B8_one _)) ?_
 intro w9 hp10
 replace hn7 := hn7.put hp10
 clear hr8
 have hlg2g6 : g2 < g6 := by have := hr4.lt; have := hn7.hg; omega
 have hzg6 : w.heap.size ≤ g6 := by have := hB.size; have := hn7.hg; omega
 replace hB := hB.go hn7.below
 replace hr4 := hr4.go hn7.below
 have hr12 : Rw g6 w9 (B8 d) 50 := hn7.row
 refine Zad ?_
 refine Zab ?_
 refine Zac ?_
 refine Zaa ?_
 refine rv 11 (.agg (B8 d)) (fun _ => Za2 50 _ _ _ _ _ _ rfl (by kernel_rfl) hr12 Tryz.underlying50 rfl (Zb7 hd)) ?_
 refine Zav g2 (B8 d) (fun _ => by kernel_rfl) (fun _ => Zao 23 _ _ _ _ _ 23 rfl (by kernel_rfl) (by kernel_rfl) hr4 (Zbm hd) ((B8_size _).trans ((show z32.length = 32 from rfl).trans (hd.symm.trans (B8_size _).symm))) (B8_one _)) ?_
 intro w13 hp14
 replace hB := hB.tou hp14.touch hzg2
 replace hr12 := hr12.past hp14.touch (by omega)
 replace hr4 : Rw g2 w13 (B8 d) 23 := hp14.row hr4
 refine Zad ?_
 refine Zab ?_
 refine Zap ?_
 refine Zaq ?_
 refine Zah ?_
 refine Zae (.agg (B8 d)) (fun _ => Zch rfl _ g2 _ (by kernel_rfl) hr4 Tryz.underlying23 rfl (Zbm hd)) ?_
 exact ⟨_, rfl, rfl, hB⟩
set_option maxHeartbeats 1000000 in
theorem Zos {t : Pt} (h : ThA w t u) (hnd : t.isNd = true)  : Calls Tryz.prog 25 #[u] w fun e w' => ∃ v', e = .returned v' ∧ RVl w (.agg (B8 (rtP t))) v' w' := by
 have hB : Bl w w := Bl.refl w
 refine Zaj Tryz.func25 rfl 15 rfl ?_
 show CW _ _ _ _ _ _ _ [(0, u)] _
 have hnn : t.isNo = false := by cases t <;> first | rfl | cases hnd
 rw [Zot hnd]
 refine Zac ?_
 refine Zaa ?_
 refine Zar 2 (B8 z32) 23 (fun _ => by kernel_rfl) (fun _ => by kernel_rfl) ?_
 intro w1 g2 hn3
 have hzg2 : w.heap.size ≤ g2 := by have := hB.size; have := hn3.hg; omega
 replace hB := hB.go hn3.below
 replace h := h.go hn3.below
 have hr4 : Rw g2 w1 (B8 z32) 23 := hn3.row
 refine Zad ?_
 refine Zab ?_
 refine Zac ?_
 refine Zac ?_
 refine Zaa ?_
 refine rp 5 (u) ?_
 refine Zad ?_
 refine Zab ?_
 refine Zan ?_
 refine Zac ?_
 refine Zaa ?_
 refine rv 6 (.bool false) (fun _ => Zal (Zpk h 5 _ rfl (by kernel_rfl) rfl) (congrArg Value.bool hnn)) ?_
 refine Zad ?_
 refine Zab ?_
 refine Zaf (fun _ => by kernel_rfl) ?_
 refine Zac ?_
 refine Zaa ?_
 refine rv 8 (.tuple #[.agg (B8 z32), .bool false]) (fun _ => Ztw h hnd _ rfl (by kernel_rfl)) ?_
 refine rp 9 (.bool false) ?_
 refine rp 10 (.agg (B8 z32)) ?_
 refine Zad ?_
 refine Zab ?_
 refine Zaf (fun _ => by kernel_rfl) ?_
 refine Zam ?_
 refine Zau ?_
 refine Zab ?_
 refine Zac ?_
 refine Zaa ?_
 refine rp 12 (u) ?_
 refine Zak 13 22 #[u] (fun _ => by kernel_rfl) (fun _ => by kernel_rfl) (R := REn w1 (encN (ndT t))) (Zyi hnd h) ?_
 rintro _ w8 ⟨⟨a5, n6, c7, rfl, ha9, hn10⟩, hb11⟩
 replace hB := hB.go hb11
 replace h := h.go hb11
 replace hr4 := hr4.go hb11
 refine Zak 14 27 #[.slice a5 n6 c7] (fun _ => by kernel_rfl) (fun _ => by kernel_rfl) (R := RVl w8 (.agg (B8 (dref (encN (ndT t)))))) (Zmr ha9 (by omega)) ?_
 rintro _ w12 ⟨rfl, hb13⟩
 replace hB := hB.go hb13
 replace h := h.go hb13
 replace hr4 := hr4.go hb13
 replace ha9 := ha9.go hb13
 refine Zav g2 (B8 (dref (encN (ndT t)))) (fun _ => by kernel_rfl) (fun _ => Zao 23 _ _ _ _ _ 23 rfl (by kernel_rfl) (by kernel_rfl) hr4 (Zbm (Di.dref_len _)) ((B8_size _).trans ((show z32.length = 32 from rfl).trans ((Di.dref_len _).symm.trans (B8_size _).symm))) (B8_one _)) ?_
 intro w14 hp15
 replace hB := hB.tou hp15.touch hzg2
 replace hr4 : Rw g2 w14 (B8 (dref (encN (ndT t)))) 23 := hp15.row hr4
 refine Zad ?_
 refine Zab ?_
 refine Zap ?_
 refine Zae (.agg (B8 (dref (encN (ndT t))))) (fun _ => Zch rfl _ g2 _ (by kernel_rfl) hr4 Tryz.underlying23 rfl (Zbm (Di.dref_len _))) ?_
 exact ⟨_, rfl, rfl, hB⟩
theorem Zu8 {t : Pt} {v : Value} (h : ThA w t v) : Calls Tryz.prog 25 #[v] w fun e w' => ∃ v', e = .returned v' ∧ RVl w (.agg (B8 (rtP t))) v' w' := by
 cases t with
 | no => obtain rfl := h; exact Zxf
 | st d => obtain ⟨rfl, hd, _⟩ := h; exact Zxe hd
 | leaf p x => exact Zos h rfl
 | ext p t => exact Zos h rfl
 | br k x => exact Zos h rfl
set_option maxHeartbeats 1000000 in
theorem Zeq {g gU : Nat} {t0 : Pt} {kn : Kn} {us : List (List Int)} (hP : PAt w g gK gU t0 kn us)  : Calls Tryz.prog 11 #[.pointer (some ⟨g, 0, none⟩)] w fun e w' => ∃ v', e = .returned v' ∧ RVl w (.agg (B8 (rtP t0))) v' w' := by
 have hgP := hP.lt
 have hgK := hP.km.lt
 have hgU := hP.um.lt
 obtain ⟨vt, hrt, htt⟩ := hP.row
 have hB : Bl w w := Bl.refl w
 refine Zaj Tryz.func11 rfl 8 rfl ?_
 show CW _ _ _ _ _ _ _ [(0, .pointer (some ⟨g, 0, none⟩))] _
 refine Zac ?_
 refine Zaa ?_
 refine Zar 2 (B8 z32) 23 (fun _ => by kernel_rfl) (fun _ => by kernel_rfl) ?_
 intro w1 g2 hn3
 have hlgg2 : g < g2 := by have := hrt.lt; have := hn3.hg; omega
 have hzg2 : w.heap.size ≤ g2 := by have := hB.size; have := hn3.hg; omega
 replace hB := hB.go hn3.below
 replace htt := htt.go hn3.below
 replace hrt := hrt.go hn3.below
 have hr4 : Rw g2 w1 (B8 z32) 23 := hn3.row
 refine Zad ?_
 refine Zab ?_
 refine Zac ?_
 refine Zaa ?_
 refine rp 3 (.pointer (some ⟨g, 0, none⟩)) ?_
 refine rp 4 (.pointer (some ⟨g, 0, none⟩)) ?_
 refine rp 5 (.pointer (some ⟨g, 0, none⟩)) ?_
 refine rv 6 (vt) (fun _ => Zag 47 _ ⟨g, 0, none⟩ _ _ rfl (by kernel_rfl) (by rw [cell_of_row _ _ _ _ _ _ hrt]; rfl) Tryz.underlying47 rfl) ?_
 refine Zak 7 25 #[vt] (fun _ => by kernel_rfl) (fun _ => by kernel_rfl) (R := RVl w1 (.agg (B8 (rtP t0)))) (Zu8 htt) ?_
 rintro _ w5 ⟨rfl, hb6⟩
 replace hB := hB.go hb6
 replace htt := htt.go hb6
 replace hrt := hrt.go hb6
 replace hr4 := hr4.go hb6
 refine Zav g2 (B8 (rtP t0)) (fun _ => by kernel_rfl) (fun _ => Zao 23 _ _ _ _ _ 23 rfl (by kernel_rfl) (by kernel_rfl) hr4 (Zbm (Zhr htt)) ((B8_size _).trans ((show z32.length = 32 from rfl).trans ((Zhr htt).symm.trans (B8_size _).symm))) (B8_one _)) ?_
 intro w7 hp8
 replace hB := hB.tou hp8.touch hzg2
 replace hrt := hrt.past hp8.touch (by omega)
 replace hr4 : Rw g2 w7 (B8 (rtP t0)) 23 := hp8.row hr4
 refine Zad ?_
 refine Zab ?_
 refine Zap ?_
 refine Zae (.agg (B8 (rtP t0))) (fun _ => Zch rfl _ g2 _ (by kernel_rfl) hr4 Tryz.underlying23 rfl (Zbm (Zhr htt))) ?_
 exact ⟨_, rfl, rfl, hB⟩
set_option maxHeartbeats 1000000 in
theorem Xbz  : Calls Tryz.prog 79 #[.int .u64 0] w fun e w' => ∃ v', e = .returned v' ∧ RVl w (.int .i64 0) v' w' := by
 have hB : Bl w w := Bl.refl w
 refine Zaj Tryz.func79 rfl 25 rfl ?_
 show CW _ _ _ _ _ _ _ [(0, .int .u64 0)] _
 refine Zac ?_
 refine Zaa ?_
 refine rp 2 (.int .i64 0) ?_
 refine Zad ?_
 refine Zab ?_
 refine Zac ?_
 refine Zac ?_
 refine Zaa ?_
 refine rp 3 (.int .u64 0) ?_
 refine rp 4 (.bool false) ?_
 refine Zad ?_
 refine Zab ?_
 refine Zaf (fun _ => by kernel_rfl) ?_
 refine Zam ?_
 refine Zab ?_
 refine Zac ?_
 refine Zac ?_
 refine Zaa ?_
 refine rp 7 (.int .u64 0) ?_
 refine rp 8 (.bool false) ?_
 refine Zad ?_
 refine Zab ?_
 refine Zaf (fun _ => by kernel_rfl) ?_
 refine Zam ?_
 refine Zab ?_
 refine Zac ?_
 refine Zac ?_
 refine Zaa ?_
 refine rp 13 (.int .u64 0) ?_
 refine rp 14 (.bool false) ?_
 refine Zad ?_
 refine Zab ?_
 refine Zaf (fun _ => by kernel_rfl) ?_
 refine Zam ?_
 refine Zab ?_
 refine Zac ?_
 refine Zaa ?_
 refine rp 19 (.int .i64 0) ?_
 refine rp 20 (.int .u64 0) ?_
 refine rp 21 (.int .u8 0) ?_
 refine rp 22 (.int .u8 0) ?_
 refine rp 23 (.int .i64 0) ?_
 refine rp 24 (.int .i64 0) ?_
 refine rp 2 (.int .i64 0) ?_
 refine Zad ?_
 refine Zab ?_
 refine Zap ?_
 refine Zae (.int .i64 0) (fun _ => by kernel_rfl) ?_
 exact ⟨_, rfl, rfl, hB⟩
set_option maxHeartbeats 1000000 in
theorem Xcf  : Calls Tryz.prog 47 #[.int .u64 0] w fun e w' => ∃ v', e = .returned v' ∧ RVl w (.int .i64 0) v' w' := by
 have hB : Bl w w := Bl.refl w
 refine Zaj Tryz.func47 rfl 8 rfl ?_
 show CW _ _ _ _ _ _ _ [(0, .int .u64 0)] _
 refine Zac ?_
 refine Zaa ?_
 refine rp 2 (.int .i64 0) ?_
 refine Zad ?_
 refine Zab ?_
 refine Zac ?_
 refine Zaf (fun _ => by kernel_rfl) ?_
 refine Zam ?_
 refine Zab ?_
 refine Zac ?_
 refine Zaa ?_
 refine rp 6 (.int .u64 0) ?_
 refine Zak 7 79 #[.int .u64 0] (fun _ => by kernel_rfl) (fun _ => by kernel_rfl) (R := RVl w (.int .i64 0)) (Xbz) ?_
 rintro _ w1 ⟨rfl, hb2⟩
 replace hB := hB.go hb2
 refine rp 2 (.int .i64 0) ?_
 refine Zad ?_
 refine Zab ?_
 refine Zap ?_
 refine Zae (.int .i64 0) (fun _ => by kernel_rfl) ?_
 exact ⟨_, rfl, rfl, hB⟩
set_option maxHeartbeats 1000000 in
theorem ins_0  : Calls Tryz.prog 70 #[.slice none 0 0, .int .i64 0, .int .i64 0, .func (.func 24) #[] #[]] w fun e w' => ∃ v', e = .returned v' ∧ RVl w (.tuple #[]) v' w' := by
 have hB : Bl w w := Bl.refl w
 refine Zaj Tryz.func70 rfl 53 rfl ?_
 show CW _ _ _ _ _ _ _ [(0, .slice none 0 0), (1, .int .i64 0), (2, .int .i64 0), (3, .func (.func 24) #[] #[])] _
 refine Zac ?_
 refine Zaa ?_
 refine rp 10 (.int .i64 0) ?_
 refine rp 11 (.int .i64 1) ?_
 refine rp 8 (.int .i64 1) ?_
 refine Zad ?_
 refine Zab ?_
 refine Zan ?_
 refine Zb8 (X := Unit) (fun _ => [(8, .int .i64 1), (11, .int .i64 1), (10, .int .i64 0), (0, .slice none 0 0), (1, .int .i64 0), (2, .int .i64 0), (3, .func (.func 24) #[] #[])]) (fun _ v => Bl w v) (fun _ => 0) () (by exact ⟨fun _ => by kernel_rfl, ⟨fun _ => by kernel_rfl, ⟨fun _ => by kernel_rfl, ⟨fun _ => by kernel_rfl, ⟨fun _ => by kernel_rfl, ⟨fun _ => by kernel_rfl, ⟨fun _ => by kernel_rfl, trivial⟩⟩⟩⟩⟩⟩⟩) hB ?_
 clear hB
 rintro _ v hB
 show CW _ _ _ _ _ _ _ [(8, .int .i64 1), (11, .int .i64 1), (10, .int .i64 0), (0, .slice none 0 0), (1, .int .i64 0), (2, .int .i64 0), (3, .func (.func 24) #[] #[])] _
 refine Zac ?_
 refine Zac ?_
 refine Zaa ?_
 refine rp 12 (.int .i64 1) ?_
 refine rp 13 (.int .i64 0) ?_
 refine rp 14 (.bool false) ?_
 refine Zad ?_
 refine Zab ?_
 refine Zaf (fun _ => by kernel_rfl) ?_
 refine Zb1 ?_
 refine Zat ?_
 refine Zat ?_
 refine Za1 ?_
 refine Zgm (.tuple #[]) (fun _ => by kernel_rfl) ?_
 exact ⟨_, rfl, rfl, hB⟩
set_option maxHeartbeats 1000000 in
theorem pdq_0  : Calls Tryz.prog 46 #[.slice none 0 0, .int .i64 0, .int .i64 0, .int .i64 0, .func (.func 24) #[] #[]] w fun e w' => ∃ v', e = .returned v' ∧ RVl w (.tuple #[]) v' w' := by
 have hB : Bl w w := Bl.refl w
 refine Zaj Tryz.func46 rfl 148 rfl ?_
 show CW _ _ _ _ _ _ _ [(0, .slice none 0 0), (1, .int .i64 0), (2, .int .i64 0), (3, .int .i64 0), (4, .func (.func 24) #[] #[])] _
 refine Zac ?_
 refine Zaa ?_
 refine rp 10 (.bool true) ?_
 refine Zad ?_
 refine Zab ?_
 refine Zac ?_
 refine Zaa ?_
 refine rp 11 (.bool true) ?_
 refine Zad ?_
 refine Zab ?_
 refine Zan ?_
 refine Zb8 (X := Unit) (fun _ => [(11, .bool true), (10, .bool true), (0, .slice none 0 0), (1, .int .i64 0), (2, .int .i64 0), (3, .int .i64 0), (4, .func (.func 24) #[] #[])]) (fun _ v => Bl w v) (fun _ => 0) () (by exact ⟨fun _ => by kernel_rfl, ⟨fun _ => by kernel_rfl, ⟨fun _ => by kernel_rfl, ⟨fun _ => by kernel_rfl, ⟨fun _ => by kernel_rfl, ⟨fun _ => by kernel_rfl, ⟨fun _ => by kernel_rfl, trivial⟩⟩⟩⟩⟩⟩⟩) hB ?_
 clear hB
 rintro _ v hB
 show CW _ _ _ _ _ _ _ [(11, .bool true), (10, .bool true), (0, .slice none 0 0), (1, .int .i64 0), (2, .int .i64 0), (3, .int .i64 0), (4, .func (.func 24) #[] #[])] _
 refine Zan ?_
 refine Zac ?_
 refine Zaa ?_
 refine rp 21 (.int .i64 0) ?_
 refine rp 22 (.int .i64 0) ?_
 refine rp 23 (.int .i64 0) ?_
 refine rp 12 (.int .i64 0) ?_
 refine Zad ?_
 refine Zab ?_
 refine Zac ?_
 refine Zac ?_
 refine Zaa ?_
 refine rp 24 (.int .i64 0) ?_
 refine rp 25 (.bool true) ?_
 refine Zad ?_
 refine Zab ?_
 refine Zai (fun _ => by kernel_rfl) ?_
 refine Zac ?_
 refine Zaa ?_
 refine rp 26 (.slice none 0 0) ?_
 refine rp 27 (.int .i64 0) ?_
 refine rp 28 (.int .i64 0) ?_
 refine rp 29 (.func (.func 24) #[] #[]) ?_
 refine Zak 30 70 #[.slice none 0 0, .int .i64 0, .int .i64 0, .func (.func 24) #[] #[]] (fun _ => by kernel_rfl) (fun _ => by kernel_rfl) (R := RVl v (.tuple #[])) (ins_0) ?_
 rintro _ w1 ⟨rfl, hb2⟩
 replace hB := hB.go hb2
 refine Zad ?_
 refine Zab ?_
 refine Zap ?_
 refine Zah ?_
 refine Zaq ?_
 refine Zah ?_
 refine Zaq ?_
 refine Zae (.tuple #[]) (fun _ => by kernel_rfl) ?_
 exact ⟨_, rfl, rfl, hB⟩
set_option maxHeartbeats 1000000 in
theorem Xb7  : Calls Tryz.prog 23 #[.slice none 0 0, .func (.func 24) #[] #[]] w fun e w' => ∃ v', e = .returned v' ∧ RVl w (.tuple #[]) v' w' := by
 have hB : Bl w w := Bl.refl w
 refine Zaj Tryz.func23 rfl 14 rfl ?_
 show CW _ _ _ _ _ _ _ [(0, .slice none 0 0), (1, .func (.func 24) #[] #[])] _
 refine Zac ?_
 refine Zaa ?_
 refine rp 5 (.slice none 0 0) ?_
 refine rp 6 (.int .i64 0) ?_
 refine rp 4 (.int .i64 0) ?_
 refine Zad ?_
 refine Zab ?_
 refine Zaa ?_
 refine rp 7 (.slice none 0 0) ?_
 refine rp 8 (.int .i64 0) ?_
 refine rp 9 (.int .i64 0) ?_
 refine rp 10 (.int .u64 0) ?_
 refine Zak 11 47 #[.int .u64 0] (fun _ => by kernel_rfl) (fun _ => by kernel_rfl) (R := RVl w (.int .i64 0)) (Xcf) ?_
 rintro _ w1 ⟨rfl, hb2⟩
 replace hB := hB.go hb2
 refine rp 12 (.func (.func 24) #[] #[]) ?_
 refine Zak 13 46 #[.slice none 0 0, .int .i64 0, .int .i64 0, .int .i64 0, .func (.func 24) #[] #[]] (fun _ => by kernel_rfl) (fun _ => by kernel_rfl) (R := RVl w1 (.tuple #[])) (pdq_0) ?_
 rintro _ w3 ⟨rfl, hb4⟩
 replace hB := hB.go hb4
 refine Zad ?_
 refine Zgm (.tuple #[]) (fun _ => by kernel_rfl) ?_
 exact ⟨_, rfl, rfl, hB⟩
end Go.Proofs.YtchgejomcgoaeaaGreat

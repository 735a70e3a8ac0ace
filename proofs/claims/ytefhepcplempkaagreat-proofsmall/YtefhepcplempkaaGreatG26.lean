/- What a writer writes: branches. -/
import Derived.Test.YtefhepcplempkaaGreatG24
import Derived.Test.YtefhepcplempkaaGreatG00
import Derived.Test.YtefhepcplempkaaGreatG23
set_option linter.unusedVariables false
set_option maxRecDepth 100000
namespace Go.Proofs.YtefhepcplempkaaGreat
open Go.RowKit
open Tr
theorem Zmt (b k : Nat) (hk : k ≠ b) : ∀ (vs : List Value) (o : Nat) (w : World), (w.setCells b o vs).heap[k]? = w.heap[k]?
 | [], _, _ => rfl
 | v :: r, o, w => (Zmt b k hk r (o + 1) _).trans (heap_setCell_other _ _ _ _ hk)
theorem Zp5 (b : Nat) : ∀ (vs : List Value) (o : Nat) (w : World), (w.setCells b o vs).os = w.os /\ (w.setCells b o vs).tape = w.tape /\ (w.setCells b o vs).output = w.output /\ (w.setCells b o vs).heap.size = w.heap.size
 | [], _, _ => ⟨rfl, rfl, rfl, rfl⟩
 | v :: r, o, w => by
  obtain ⟨h1, h2, h3, h4⟩ := Zp5 b r (o + 1) (w.setCell ⟨b, o, none⟩ v)
  exact ⟨h1, h2, h3, h4.trans (by simp)⟩
theorem Zvs (b : Nat) (t : TypeId) : ∀ (vs : List Value) (o : Nat) (w : World) (cur : Array Value), w.heap[b]? = some (.cells cur t (0, 0)) -> ∃ cur' : Array Value, (w.setCells b o vs).heap[b]? = some (.cells cur' t (0, 0)) /\ cur'.size = cur.size
 | [], _, _, cur, h => ⟨cur, h, rfl⟩
 | v :: r, o, w, cur, h => by
  obtain ⟨c', h1, h2⟩ := Zvs b t r (o + 1) (w.setCell ⟨b, o, none⟩ v) _ (heap_setCell_same w b o cur t v h)
  exact ⟨c', h1, by rw [h2]; simp⟩
structure St (w w' : World) (g : Nat) : Prop where
 other : ∀ k, k ≠ g -> w'.heap[k]? = w.heap[k]?
 os : w'.os = w.os
 tape : w'.tape = w.tape
 output : w'.output = w.output
 size : w'.heap.size = w.heap.size
theorem St.of (w : World) (g o : Nat) (vs : List Value) : St w (w.setCells g o vs) g := by
 obtain ⟨h1, h2, h3, h4⟩ := Zp5 g vs o w
 exact ⟨fun k hk => Zmt g k hk vs o w, h1, h2, h3, h4⟩
theorem Sk.st {K : Nat -> Prop} {w w' : World} {a : Option Addr} {n c : Nat} {bs : List Int} {g : Nat} (h : Sk K w a n c bs) (hp : St w w' g) (hK : ∀ b, K b -> b ≠ g) : Sk K w' a n c bs := by
 refine ⟨⟨?_, h.ag.nil, h.ag.l, h.ag.b⟩, h.k⟩
 rcases h.ag.i with h1 | ⟨gb, off, h1, h2, h3, h4, h5, h7⟩
 ·exact .inl h1
 ·exact .inr ⟨gb, off, h1, h2, h3, h4, h5, fun j hj => (World.cell?_of_block (show w'.heap[gb]? = w.heap[gb]? from hp.other gb (hK gb (h.k _ h1 h3)))).trans (h7 j hj)⟩
theorem TA.st {K : Nat -> Prop} {w w' : World} {g : Nat} (hp : St w w' g) (hK : ∀ b, K b -> b ≠ g) : ∀ {t : Tr} {v : Value}, TA K w t v -> TA K w' t v := by
 intro t
 induction t with
 | no => intro v h; exact h
 | leaf p x => rintro v ⟨a, n, c, a', n', c', h1, h2, h3, h4⟩; exact ⟨a, n, c, a', n', c', h1, h2.st hp hK, h3.st hp hK, h4⟩
 | ext p t ih => rintro v ⟨a, n, c, u, h1, h2, h3⟩; exact ⟨a, n, c, u, h1, h2.st hp hK, ih h3⟩
 | br k x ih => rintro v ⟨vs, a, n, c, h1, h2, h3, h4⟩; exact ⟨vs, a, n, c, h1, fun i hi => ih i (h2 i hi), h3.st hp hK, h4⟩
theorem TK.st {K : Nat -> Prop} {w w' : World} {g : Nat} {k : Nat -> Tr} {vs : Nat -> Value} (h : TK K w k vs) (hp : St w w' g) (hK : ∀ b, K b -> b ≠ g) : TK K w' k vs := fun i hi => (h i hi).st hp hK
theorem TA.aged {X : Nat -> Prop} {w : World} {gW : Nat} {vN : Value} : ∀ {t : Tr} {v : Value}, TA (KW gW vN X) w t v -> TA (KW gW vN (fun b => b < w.heap.size)) w t v := by
 intro t
 induction t with
 | no => intro v h; exact h
 | leaf p x => rintro v ⟨a, n, c, a', n', c', h1, h2, h3, h4⟩; exact ⟨a, n, c, a', n', c', h1, h2.aged, h3.aged, h4⟩
 | ext p t ih => rintro v ⟨a, n, c, u, h1, h2, h3⟩; exact ⟨a, n, c, u, h1, h2.aged, ih h3⟩
 | br k x ih => rintro v ⟨vs, a, n, c, h1, h2, h3, h4⟩; exact ⟨vs, a, n, c, h1, fun i hi => ih i (h2 i hi), h3.aged, h4⟩
theorem TK.aged {X : Nat -> Prop} {w : World} {gW : Nat} {vN : Value} {k : Nat -> Tr} {vs : Nat -> Value} (h : TK (KW gW vN X) w k vs) : TK (KW gW vN (fun b => b < w.heap.size)) w k vs := fun i hi => (h i hi).aged
theorem Rf.st {K : Nat -> Prop} {w w' : World} {y : RV} {r : PR} {g : Nat} (h : Rf K w y r) (hp : St w w' g) (hK : ∀ b, K b -> b ≠ g) : Rf K w' y r := ⟨h.at'.go (fun b hb _ => ⟨hp.other b (hK b hb), hb⟩)⟩
theorem Rw.st {g g' : Nat} {w w' : World} {cells : Array Value} {T : TypeId} (h : Rw g w cells T) (hp : St w w' g') (hne : g ≠ g') : Rw g w' cells T := (hp.other g hne).trans h
theorem Wt.st {X : Nat -> Prop} {w w' : World} {gW base g : Nat} {vN : Value} {ns : List (List Int)} {old : Array Value} {T : TypeId} (h : Wt w gW base vN X ns) (hr : w.heap[g]? = some (.cells old T (0, 0))) (h1 : T ≠ 23) (h2 : T ≠ 80) (hX : ∀ b, X b -> b ≠ g) (hp : St w w' g) : Wt w' gW base vN X ns := by
 obtain ⟨vals, ⟨q1, ho⟩, hv⟩ := h.o
 have hne : gW ≠ g := by
  rintro rfl
  have := h.r
  rw [Rw, hr] at this
  simp at this
  exact h2 this.2
 refine ⟨(hp.other _ hne).trans h.r, ⟨vals, ⟨q1, ?_⟩, hv.1, fun j u hu => ?_⟩, h.b⟩
 case refine_2 =>
  obtain ⟨a, n, c, e, hs⟩ := hv.2 j u hu
  exact ⟨a, n, c, e, hs.st hp (fun b hb => hX b hb.2.2)⟩
 rcases ho with q | ⟨g', cap, cur, e1, e2, e3, e4⟩
 ·exact .inl q
 ·refine .inr ⟨g', cap, cur, e1, e2, (hp.other _ ?_).trans e3, e4⟩
  rintro rfl
  rw [hr] at e3
  simp at e3
  exact h1 e3.2
theorem Wg.st {w v v' : World} {gW g : Nat} {vN vN' : Value} (h : Wg w v gW vN vN') (hp : St v v' g) (hg : w.heap.size <= g) : Wg w v' gW vN vN' :=
 ⟨hp.os.trans h.os, hp.tape.trans h.tape, hp.output.trans h.output, by rw [hp.size]; exact h.size, fun k hk h1 h2 => (hp.other k (by omega)).trans (h.block k hk h1 h2), h.own⟩
def kz : Array Value := (Array.range 544).map (fun x => rz.cells.toArray[x % 34]!)
def updR (ys : Nat -> RV) (i : Nat) (y : RV) : Nat -> RV := fun j => if j = i then y else ys j
structure Kr (gK : Nat) (w : World) (ys : Nat -> RV) : Prop where
 row : ∃ cur : Array Value, w.heap[gK]? = some (.cells cur 65 (0, 0)) /\ cur.size = 544
 rng : ∀ i, i < 16 -> w.rangeAt gK (0 + i * 34) (ys i).cells
 ln : ∀ i, (ys i).d.length = 32
theorem Kr.same {gK : Nat} {w w' : World} {ys : Nat -> RV} (h : Kr gK w ys) (e : w'.heap[gK]? = w.heap[gK]?) : Kr gK w' ys := by
 obtain ⟨cur, h1, h2⟩ := h.row
 exact ⟨⟨cur, e.trans h1, h2⟩, fun i hi m v hv => (World.cell?_of_block (show w'.heap[gK]? = w.heap[gK]? from e)).trans (h.rng i hi m v hv), h.ln⟩
theorem Kr.go {gK : Nat} {w w' : World} {ys : Nat -> RV} (h : Kr gK w ys) (hb : Below w.heap.size w w') : Kr gK w' ys := by
 obtain ⟨cur, h1, h2⟩ := h.row
 exact h.same (hb.block gK (lt_of_get h1))
theorem Kr.wg {gK : Nat} {w w' : World} {gW base : Nat} {X : Nat -> Prop} {vN vN' : Value} {ns : List (List Int)} {ys : Nat -> RV} (h : Kr gK w ys) (hg : Wg w w' gW vN vN') (hw : Wt w gW base vN X ns) : Kr gK w' ys := by
 obtain ⟨cur, h1, h2⟩ := h.row
 exact h.same ((hg.row hw h1 (by decide) (by decide)).trans h1.symm)
theorem Kr.lt {gK : Nat} {w : World} {ys : Nat -> RV} (h : Kr gK w ys) : gK < w.heap.size := by
 obtain ⟨cur, h1, h2⟩ := h.row
 exact lt_of_get h1
theorem Kr.there {gK : Nat} {w : World} {ys : Nat -> RV} (h : Kr gK w ys) {j : Nat} (hj : j < 16) : w.there gK (0 + j * 34) 34 := by
 obtain ⟨cur, h1, h2⟩ := h.row
 intro m hm
 refine ⟨?_, frozen_of_row _ _ _ _ _ h1⟩
 rw [cell_of_row _ _ _ _ _ _ h1, Array.getElem?_eq_getElem (by omega)]
 rfl
theorem Kr.put {gK : Nat} {w : World} {ys : Nat -> RV} (h : Kr gK w ys) {j : Nat} (hj : j < 16) {y : RV} (hy : y.d.length = 32) : Kr gK (w.setCells gK (0 + j * 34) y.cells) (updR ys j y) := by
 have ht := h.there hj
 obtain ⟨cur, h1, h2⟩ := h.row
 obtain ⟨cur', h3, h4⟩ := Zvs gK 65 y.cells (0 + j * 34) w cur h1
 refine ⟨⟨cur', h3, h4.trans h2⟩, fun i hi => ?_, fun i => ?_⟩
 ·unfold updR
  by_cases e : i = j
  ·rw [if_pos e, e]
   exact World.rangeAt_setCells_same w gK (0 + j * 34) y.cells (by rw [RV.len hy]; exact ht)
  ·rw [if_neg e]
   refine World.rangeAt_setCells_apart (h.rng i hi) gK (0 + j * 34) y.cells (.inr ?_)
   rw [RV.len (h.ln i), RV.len hy]
   omega
 ·unfold updR
  split
  ·exact hy
  ·exact h.ln i
theorem Kr.new {w w' : World} {gK : Nat} (h : New w w' gK kz 65) : Kr gK w' (fun _ => rz) := by
 refine ⟨⟨kz, h.row, by simp [kz]⟩, fun i hi m v hv => ?_, fun _ => rfl⟩
 have hm : m < 34 := by have := (List.getElem?_eq_some_iff.1 hv).1; rw [RV.len (x := rz) rfl] at this; exact this
 rw [cell_of_row _ _ _ _ _ _ h.row]
 unfold kz
 rw [Array.getElem?_map, Array.getElem?_eq_getElem (by rw [Array.size_range]; omega)]
 rw [Array.getElem_range, Option.map_some]
 rw [show (0 + i * 34 + m) % 34 = m from by omega]
 rw [<- hv, getElem!_pos _ _ (by rw [List.size_toArray, RV.len (x := rz) rfl]; exact hm)]
 simp
theorem Zg6 {ρ : Operand -> Value} {w : World} {o : Oper} (x z : Operand) {gK j : Nat} {ys : Nat -> RV} {y : RV} (h : Kr gK w ys) (hj : j < 16) (hy : y.d.length = 32) (ho : o.op = .store 65 x z) (hx : ρ x = .pointer (some ⟨gK, 0 + j * 34, none⟩)) (hz : ρ z = .agg y.cells.toArray) :
  (execOp ρ o).run Tryz.prog w = .ok .skip (w.setCells gK (0 + j * 34) y.cells) := by
 have := run_storeAt_mid (P := Tryz.prog) w gK (0 + j * 34) 65 y.cells.toArray (by rw [Zbd hy]; exact h.there hj) (by rw [Zbx, Zbd hy]) (Zcs y)
 unfold execOp
 simp only [ho, hx, hz, Sem.run_bind, this, Result.andThen_ok, Sem.run_pure]
def rP (k : Nat -> Tr) (i : Nat) : PR := if (k i).isNo then r0 else referP (encT (k i))
def nmK (k : Nat -> Tr) (i : Nat) : List (List Int) := if (k i).isNo then [] else nmd (k i) ++ nm1 (encT (k i))
def nmJ (k : Nat -> Tr) (j : Nat) : List (List Int) := (List.range j).flatMap (nmK k)
theorem Zgg (k : Nat -> Tr) (j : Nat) : nmJ k (j + 1) = nmJ k j ++ nmK k j := by simp [nmJ, List.range_succ, List.flatMap_append]
theorem Znc (k : Nat -> Tr) (i : Nat) : ∀ d, (nmJ k i).length <= (nmJ k (i + d)).length
 | 0 => Nat.le_refl _
 | d + 1 => by rw [<- Nat.add_assoc, Zgg, List.length_append]; have := Znc k i d; omega
theorem Zpe : (fun (va : Option Addr) (vn vc : Nat) (ka : Option Addr) (kn kc : Nat) => Tryz.prog.built 68 [(0, .int .i64 3), (4, .slice ka kn kc), (2, .slice va vn vc)]) = fun va vn vc ka kn kc => some (NV.cells ⟨3, none, 0, 0, va, vn, vc, rz, ka, kn, kc⟩).toArray := by kernel_rfl
theorem Zso (va : Option Addr) (vn vc : Nat) (ka : Option Addr) (kn kc : Nat) : Tryz.prog.built 68 [(0, .int .i64 3), (4, .slice ka kn kc), (2, .slice va vn vc)] = some (NV.cells ⟨3, none, 0, 0, va, vn, vc, rz, ka, kn, kc⟩).toArray := congrFun (congrFun (congrFun (congrFun (congrFun (congrFun Zpe va) vn) vc) ka) kn) kc
def RFS (t : Tr) : Prop := ∀ {v : World} {gW base : Nat} {vM : Value} {Y Z : Nat -> Prop} {ns : List (List Int)} {val : Value}, TA (KW gW vM Z) v t val -> Wt v gW base vM Y ns -> (∀ b, v.heap.size <= b -> Y b) -> (ns ++ nmd t).length + 1 <= 8800000000000 -> Calls Tryz.prog 194 #[.pointer (some ⟨gW, 0, none⟩), val] v fun e w' => ∃ u, e = .returned u /\ RRf v gW base vM Y ns t u w'
structure BI (w : World) (gW base : Nat) (vN : Value) (X : Nat -> Prop) (ns : List (List Int)) (k : Nat -> Tr) (vs : Nat -> Value) (a : Option Addr) (n c : Nat) (x : List Int) (gB gN gK : Nat) (j : Nat) (vM : Value) (ys : Nat -> RV) (v : World) : Prop where
 hrB : Rw gB v (brc vs (.slice a n c)) 221
 hrN : Rw gN v nz.cells.toArray 68
 hK : Kr gK v ys
 hk : TK (KW gW vM (fun b => b < w.heap.size)) v k vs
 hx : Sk (KW gW vM (fun b => b < w.heap.size)) v a n c x
 hr : ∀ i, i < 16 -> Rf (KW gW vM (fun b => gK < b)) v (ys i) (if i < j then rP k i else r0)
 hW : Wt v gW base vM (fun b => X b /\ b ≠ gN /\ b ≠ gK) (ns ++ nmJ k j)
 hG : Wg w v gW vN vM
theorem BI.skip {w : World} {gW base : Nat} {vN : Value} {X : Nat -> Prop} {ns : List (List Int)} {k : Nat -> Tr} {vs : Nat -> Value} {a : Option Addr} {n c : Nat} {x : List Int} {gB gN gK j : Nat} {vM : Value} {ys : Nat -> RV} {v : World} (h : BI w gW base vN X ns k vs a n c x gB gN gK j vM ys v) (hno : (k j).isNo = true) : BI w gW base vN X ns k vs a n c x gB gN gK (j + 1) vM ys v := by
 refine ⟨h.hrB, h.hrN, h.hK, h.hk, h.hx, fun i hi => ?_, by rw [Zgg, show nmK k j = [] from by unfold nmK; rw [if_pos hno], List.append_nil]; exact h.hW, h.hG⟩
 have := h.hr i hi
 by_cases e : i = j
 ·subst e
  rw [if_neg (by omega)] at this
  rw [if_pos (by omega), show rP k i = r0 from by unfold rP; rw [if_pos hno]]
  exact this
 ·by_cases h1 : i < j
  ·rw [if_pos h1] at this; rw [if_pos (by omega)]; exact this
  ·rw [if_neg h1] at this; rw [if_neg (by omega)]; exact this
theorem BI.step {w : World} {gW base : Nat} {vN : Value} {X : Nat -> Prop} {ns : List (List Int)} {k : Nat -> Tr} {vs : Nat -> Value} {a : Option Addr} {n c : Nat} {x : List Int} {gB gN gK j : Nat} {vM : Value} {ys : Nat -> RV} {v : World} (h : BI w gW base vN X ns k vs a n c x gB gN gK j vM ys v) (hj : j < 16) (hno : (k j).isNo = false) (hg1 : w.heap.size <= gB) (hg2 : gB < gN) (hg3 : gN < gK)
  {y : RV} {vP : Value} {u : World} (hRf : Rf (KW gW vP (fun b => v.heap.size < b)) u y (referP (encT (k j)))) (hW : Wt u gW base vP (fun b => X b /\ b ≠ gN /\ b ≠ gK) ((ns ++ nmJ k j) ++ (nmd (k j) ++ nm1 (encT (k j))))) (hG : Wg v u gW vM vP) : Kr gK u ys /\ BI w gW base vN X ns k vs a n c x gB gN gK (j + 1) vP (updR ys j y) (u.setCells gK (0 + j * 34) y.cells) := by
 have hKu := h.hK.wg hG h.hW
 have hlt := h.hK.lt
 have hst := St.of u gK (0 + j * 34) y.cells
 have hyl := hRf.at'.len
 obtain ⟨cur, hc1, hc2⟩ := hKu.row
 refine ⟨hKu, (h.hrB.wg hG h.hW (by decide) (by decide)).st hst (by omega), (h.hrN.wg hG h.hW (by decide) (by decide)).st hst (by omega), hKu.put hj hyl, (h.hk.wg hG).st hst (fun b hb => by have := hb.2.2; omega), (h.hx.wg hG).st hst (fun b hb => by have := hb.2.2; omega), fun i hi => ?_, ?_, (h.hG.trans hG).st hst (by omega)⟩
 ·by_cases e : i = j
  ·subst e
   rw [if_pos (by omega), show updR ys i y i = y from by simp [updR], show rP k i = referP (encT (k i)) from by unfold rP; rw [if_neg (by simp [hno])]]
   exact (hRf.mono (fun b hb => ⟨hb.1, hb.2.1, by have := hb.2.2; omega⟩)).st hst (fun b hb => by have := hb.2.2; omega)
  ·rw [show updR ys j y i = ys i from by simp [updR, e]]
   have q := ((h.hr i hi).wg hG).st hst (fun b hb => by have := hb.2.2; omega)
   by_cases h1 : i < j
   ·rw [if_pos h1] at q; rw [if_pos (by omega)]; exact q
   ·rw [if_neg h1] at q; rw [if_neg (by omega)]; exact q
 ·have e : ns ++ nmJ k (j + 1) = (ns ++ nmJ k j) ++ (nmd (k j) ++ nm1 (encT (k j))) := by rw [Zgg, show nmK k j = nmd (k j) ++ nm1 (encT (k j)) from by unfold nmK; rw [if_neg (by simp [hno])], List.append_assoc]
  rw [e]
  exact hW.st hc1 (by decide) (by decide) (fun b hb => hb.2.2) hst
theorem Zet (K : Nat -> Prop) (w : World) : RefAt K w rz r0 := ⟨rfl, rfl, (Zgc w).2.2.1, rfl, ⟨.inl ⟨rfl, rfl⟩, fun _ => ⟨rfl, rfl⟩, rfl, fun x hx => by cases hx⟩, Nat.zero_le _, fun _ _ e => by cases e⟩
theorem Zx2 {K : Nat -> Prop} {w : World} {gK : Nat} {ys : Nat -> RV} {k : Nat -> Tr} {x : List Int} (h : Kr gK w ys) (hr : ∀ i, i < 16 -> Rf K w (ys i) (if i < 16 then rP k i else r0)) : KidsAt (fun _ => True) w (some ⟨gK, 0, none⟩) (nodeP (br k x)).ks := by
 intro j r hj
 have hl : j < 16 := by have := (List.getElem?_eq_some_iff.1 hj).1; simpa [nodeP] using this
 have e : r = rP k j := by
  simp only [nodeP] at hj
  rw [List.getElem?_map, List.getElem?_range hl] at hj
  simp at hj
  rw [<- hj]; rfl
 have q := hr j hl
 rw [if_pos hl] at q
 exact ⟨gK, 0, ys j, rfl, trivial, h.rng j hl, by rw [e]; exact q.at'.go (fun b hb _ => ⟨rfl, trivial⟩)⟩
set_option maxHeartbeats 4000000 in
theorem Zsu {w : World} {gW base : Nat} {vN : Value} {X : Nat -> Prop} {ns : List (List Int)} (hW : Wt w gW base vN X ns) {Z : Nat -> Prop} {a : Option Addr} {n c : Nat} {x : List Int} {k : Nat -> Tr} {vs : Nat -> Value} (hk : TK (KW gW vN Z) w k vs) (hx : Sk (KW gW vN Z) w a n c x) (hn2 : n <= 256) (hX : ∀ b, w.heap.size <= b -> X b) (hR : ∀ i, i < 16 -> k i = no \/ RFS (k i)) (hM : (ns ++ nmJ k 16).length + 1 <= 8800000000000) :
  Calls Tryz.prog 190 #[.agg (brc vs (.slice a n c)), .pointer (some ⟨gW, 0, none⟩)] w fun e w' => ∃ u, e = .returned u /\ RNd w gW base vN X ns (br k x) u w' := by
 have hB := Bl.refl w
 replace hk := hk.aged
 replace hx := hx.aged
 have hW0 := hW
 refine Zaj Tryz.func190 rfl 28 rfl ?_
 show CW _ _ _ _ _ _ _ [(0, .agg (brc vs (.slice a n c))), (1, .pointer (some ⟨gW, 0, none⟩))] _
 refine Zac <| Zaa <| Zax 2 (brc vs (.slice a n c)) 221 (fun _ => by kernel_rfl) (fun _ => by kernel_rfl) ?_
 intro w1 gB hnB
 replace hB := hB.go hnB.below
 replace hk := hk.go hnB.below
 replace hx := hx.go hnB.below
 have hrB : Rw gB w1 (brc vs (.slice a n c)) 221 := hnB.row
 have hgB := hnB.hg
 have hsB := hnB.size
 refine Zax 4 nz.cells.toArray 68 (fun _ => by kernel_rfl) (fun _ => by kernel_rfl) ?_
 intro w2 gN hnN
 replace hB := hB.go hnN.below
 replace hk := hk.go hnN.below
 replace hx := hx.go hnN.below
 replace hrB := hrB.go hnN.below
 have hrN : Rw gN w2 nz.cells.toArray 68 := hnN.row
 have hgN := hnN.hg
 have hsN := hnN.size
 refine Zad <| Zab <| Zac <| Zaa <| Zbi 8 kz 65 16 (fun _ => by kernel_rfl) (fun _ => by kernel_rfl) ?_
 intro w3 gK hnK
 replace hB := hB.go hnK.below
 replace hk := hk.go hnK.below
 replace hx := hx.go hnK.below
 replace hrB := hrB.go hnK.below
 replace hrN := hrN.go hnK.below
 have hK := Kr.new hnK
 have hgK := hnK.hg
 have hI : BI w gW base vN X ns k vs a n c x gB gN gK 0 vN (fun _ => rz) w3 := ⟨hrB, hrN, hK, hk, hx, fun i hi => by rw [if_neg (by omega)]; exact ⟨Zet _ _⟩, (by rw [show nmJ k 0 = [] from rfl, List.append_nil]; exact (hW0.mono (Y := fun b => X b /\ b ≠ gN /\ b ≠ gK) (fun b hb hx => ⟨hx, by omega, by omega⟩)).go hB), Wg.of_below hB⟩
 have hord : w.heap.size <= gB /\ gB < gN /\ gN < gK := by omega
 clear hrB hrN hK hk hx hB
 refine rp 5 (.slice (some ⟨gK, 0, none⟩) 16 16) <| Zad <| Zab <| Zac <| Zac <| Zaa <| rp 9 (.pointer (some ⟨gB, 0, none⟩)) <| rv 10 (.agg (bra vs)) (fun _ => Zqt hI.hrB _ rfl (by kernel_rfl)) <| rp 11 (.int .i64 0) <| Zad <| Zab <| Zar ?_
 refine Zby (X := Nat × Value × (Nat -> RV)) (fun z => [(11, .int .i64 ((z.1 : Nat) : Int)), (10, .agg (bra vs)), (5, .slice (some ⟨gK, 0, none⟩) 16 16), (1, .pointer (some ⟨gW, 0, none⟩)), (2, .pointer (some ⟨gB, 0, none⟩)), (4, .pointer (some ⟨gN, 0, none⟩))]) (fun z v => BI w gW base vN X ns k vs a n c x gB gN gK z.1 z.2.1 z.2.2 v /\ z.1 <= 16) (fun z => 16 - z.1) (0, vN, fun _ => rz) (by exact ⟨fun _ => by kernel_rfl, ⟨fun _ => by kernel_rfl, ⟨fun _ => by kernel_rfl, ⟨fun _ => by kernel_rfl, ⟨fun _ => by kernel_rfl, ⟨fun _ => by kernel_rfl, trivial⟩⟩⟩⟩⟩⟩) ⟨hI, Nat.zero_le _⟩ ?_
 clear hI
 rintro ⟨j, vM, ys⟩ v ⟨hI, hj⟩
 simp only at hI hj
 show CW _ _ _ _ _ _ _ [(11, .int .i64 ((j : Nat) : Int)), (10, .agg (bra vs)), (5, .slice (some ⟨gK, 0, none⟩) 16 16), (1, .pointer (some ⟨gW, 0, none⟩)), (2, .pointer (some ⟨gB, 0, none⟩)), (4, .pointer (some ⟨gN, 0, none⟩))] _
 by_cases hlt : j < 16
 ·skip
  refine Zac <| Zaa <| rv 12 (.bool true) (fun _ => Zag (v := .bool (decide (((j : Nat) : Int) < (16 : Int)))) (by kernel_rfl) (congrArg Value.bool (decide_eq_true (by omega)))) <| Zad <| Zab <| Zac <| Zak (fun _ => by kernel_rfl) <| Zan <| Zab <| Zac <| Zar <| Zac ?_
  refine Zaa <| rp 13 (.int .i64 ((j : Nat) : Int)) <| rv 14 (vs j) (fun _ => Zks _ _ vs j hlt rfl (by kernel_rfl) (by kernel_rfl)) <| rp 6 (.int .i64 ((j : Nat) : Int)) <| rp 7 (vs j) <| Zad <| Zab <| Zac <| Zaa <| rp 15 (vs j) <| rv 16 (.bool (!(k j).isNo)) (fun _ => Zzw (hI.hk j hlt) _ _ rfl (by kernel_rfl) (by kernel_rfl)) <| Zad ?_
  refine Zab ?_
  cases hno : (k j).isNo with
  | true =>
   show CW _ _ _ _ _ _ _ [(16, .bool false), (15, vs j), (7, vs j), (6, .int .i64 ((j : Nat) : Int)), (14, vs j), (13, .int .i64 ((j : Nat) : Int)), (12, .bool true), (11, .int .i64 ((j : Nat) : Int)), (10, .agg (bra vs)), (5, .slice (some ⟨gK, 0, none⟩) 16 16), (1, .pointer (some ⟨gW, 0, none⟩)), (2, .pointer (some ⟨gB, 0, none⟩)), (4, .pointer (some ⟨gN, 0, none⟩))] _
   have hI2 := hI.skip hno
   refine Zai (fun _ => by kernel_rfl) <| Zan <| Za0 <| Zab <| Zaa <| rv 23 (.int .i64 ((j + 1 : Nat) : Int)) (fun _ => Zag (v := .int .i64 (IntKind.i64.wrap (((j : Nat) : Int) + 1))) (by kernel_rfl) (congrArg (Value.int .i64) (by rw [Zbc (by omega) (by omega)]; rfl))) <| rp 11 (.int .i64 ((j + 1 : Nat) : Int)) <| Zad ?_
   exact Za8 (E := fun z => [(11, .int .i64 ((z.1 : Nat) : Int)), (10, .agg (bra vs)), (5, .slice (some ⟨gK, 0, none⟩) 16 16), (1, .pointer (some ⟨gW, 0, none⟩)), (2, .pointer (some ⟨gB, 0, none⟩)), (4, .pointer (some ⟨gN, 0, none⟩))]) (R := fun z v => BI w gW base vN X ns k vs a n c x gB gN gK z.1 z.2.1 z.2.2 v /\ z.1 <= 16) (μ := fun z => 16 - z.1) (x := (j, vM, ys)) (j + 1, vM, ys) (by exact ⟨fun _ => by kernel_rfl, ⟨fun _ => by kernel_rfl, ⟨fun _ => by kernel_rfl, ⟨fun _ => by kernel_rfl, ⟨fun _ => by kernel_rfl, ⟨fun _ => by kernel_rfl, trivial⟩⟩⟩⟩⟩⟩) ⟨hI2, by omega⟩ (by show 16 - (j + 1) < 16 - j; omega)
  | false =>
   show CW _ _ _ _ _ _ _ [(16, .bool true), (15, vs j), (7, vs j), (6, .int .i64 ((j : Nat) : Int)), (14, vs j), (13, .int .i64 ((j : Nat) : Int)), (12, .bool true), (11, .int .i64 ((j : Nat) : Int)), (10, .agg (bra vs)), (5, .slice (some ⟨gK, 0, none⟩) 16 16), (1, .pointer (some ⟨gW, 0, none⟩)), (2, .pointer (some ⟨gB, 0, none⟩)), (4, .pointer (some ⟨gN, 0, none⟩))] _
   refine Zak (fun _ => by kernel_rfl) <| Zaa <| rp 17 (.slice (some ⟨gK, 0, none⟩) 16 16) <| rp 18 (.int .i64 ((j : Nat) : Int)) <| rp 19 (.pointer (some ⟨gW, 0, none⟩)) <| rp 20 (vs j) ?_
   have hRj : RFS (k j) := by
    rcases hR j hlt with h | h
    ·rw [h] at hno; simp [isNo] at hno
    ·exact h
   have hMj : ((ns ++ nmJ k j) ++ nmd (k j)).length + 1 <= 8800000000000 := by
    have h1 := Znc k (j + 1) (15 - j)
    rw [show j + 1 + (15 - j) = 16 from by omega, Zgg, show nmK k j = nmd (k j) ++ nm1 (encT (k j)) from by unfold nmK; rw [if_neg (by simp [hno])]] at h1
    simp only [List.length_append] at h1 hM ⊢
    omega
   refine Zao 21 194 #[.pointer (some ⟨gW, 0, none⟩), vs j] (fun _ => by kernel_rfl) (fun _ => by kernel_rfl) (R := RRf v gW base vM (fun b => X b /\ b ≠ gN /\ b ≠ gK) (ns ++ nmJ k j) (k j)) (hRj (hI.hk j hlt) hI.hW (fun b hb => ⟨hX b (Nat.le_trans hI.hG.size hb), by have := hI.hK.lt; omega, by have := hI.hK.lt; omega⟩) hMj) ?_
   rintro _ u1 ⟨y, vP, rfl, hRf, hW1, hG1⟩
   have hyl := hRf.at'.len
   obtain ⟨hKu, hI2⟩ := hI.step hlt hno hord.1 hord.2.1 hord.2.2 hRf hW1 hG1
   refine rv 22 (.pointer (some ⟨gK, 0 + j * 34, none⟩)) (fun _ => Zau 66 _ _ gK 0 j 16 16 34 65 rfl (by kernel_rfl) (by kernel_rfl) hlt Tryz.underlying66 (by kernel_rfl)) <| rw_s (fun _ => by kernel_rfl) (fun _ => Zg6 _ _ hKu hlt hyl rfl (by kernel_rfl) (by kernel_rfl)) ?_
   generalize u1.setCells gK (0 + j * 34) y.cells = wS at hI2 ⊢
   refine Zad <| Za0 <| Zab <| Zaa <| rv 23 (.int .i64 ((j + 1 : Nat) : Int)) (fun _ => Zag (v := .int .i64 (IntKind.i64.wrap (((j : Nat) : Int) + 1))) (by kernel_rfl) (congrArg (Value.int .i64) (by rw [Zbc (by omega) (by omega)]; rfl))) <| rp 11 (.int .i64 ((j + 1 : Nat) : Int)) <| Zad ?_
   exact Za8 (E := fun z => [(11, .int .i64 ((z.1 : Nat) : Int)), (10, .agg (bra vs)), (5, .slice (some ⟨gK, 0, none⟩) 16 16), (1, .pointer (some ⟨gW, 0, none⟩)), (2, .pointer (some ⟨gB, 0, none⟩)), (4, .pointer (some ⟨gN, 0, none⟩))]) (R := fun z v => BI w gW base vN X ns k vs a n c x gB gN gK z.1 z.2.1 z.2.2 v /\ z.1 <= 16) (μ := fun z => 16 - z.1) (x := (j, vM, ys)) (j + 1, vP, updR ys j y) (by exact ⟨fun _ => by kernel_rfl, ⟨fun _ => by kernel_rfl, ⟨fun _ => by kernel_rfl, ⟨fun _ => by kernel_rfl, ⟨fun _ => by kernel_rfl, ⟨fun _ => by kernel_rfl, trivial⟩⟩⟩⟩⟩⟩) ⟨hI2, by omega⟩ (by show 16 - (j + 1) < 16 - j; omega)
 obtain rfl : j = 16 := by omega
 refine Zac <| Zaa <| rv 12 (.bool false) (fun _ => Zag (v := .bool (decide (((16 : Nat) : Int) < (16 : Int)))) (by kernel_rfl) (congrArg Value.bool (rfl))) <| Zad <| Zab <| Zac <| Zai (fun _ => by kernel_rfl) <| Zbl <| Zal <| Zal <| Zay <| Zab ?_
 refine Zac <| Zaa <| rp 24 (.slice (some ⟨gK, 0, none⟩) 16 16) <| rp 25 (.pointer (some ⟨gB, 16, none⟩)) <| rv 26 (.slice a n c) (fun _ => Zah 23 _ ⟨gB, 16, none⟩ _ _ rfl (by kernel_rfl) (by rw [cell_of_row _ _ _ _ _ _ hI.hrB]; rfl) Tryz.underlying23 rfl) <| rv 27 (.agg (NV.cells ⟨3, none, 0, 0, a, n, c, rz, some ⟨gK, 0, none⟩, 16, 16⟩).toArray) (fun _ => Zdb 68 _ [(0, .int .i64 3), (4, .slice (some ⟨gK, 0, none⟩) 16 16), (2, .slice a n c)] _ rfl (by kernel_rfl) (Zso _ _ _ _ _ _)) <| Zbm gN (NV.cells ⟨3, none, 0, 0, a, n, c, rz, some ⟨gK, 0, none⟩, 16, 16⟩).toArray (fun _ => by kernel_rfl) (fun _ => Za3 68 _ _ _ _ _ _ rfl (by kernel_rfl) (by kernel_rfl) hI.hrN (by rw [Zc1, Zbn (y := ⟨3, none, 0, 0, a, n, c, rz, some ⟨gK, 0, none⟩, 16, 16⟩) rfl]) (by rw [Zbn (y := ⟨3, none, 0, 0, a, n, c, rz, some ⟨gK, 0, none⟩, 16, 16⟩) rfl]; rfl) (Zew _)) ?_
 intro wE hpE
 have hrE : Rw gN wE (NV.cells ⟨3, none, 0, 0, a, n, c, rz, some ⟨gK, 0, none⟩, 16, 16⟩).toArray 68 := hpE.row hI.hrN
 have hxE := hI.hx.put hpE (fun b hb => by have := hb.2.2; omega)
 have hKE := hI.hK.same (hpE.other (by omega))
 have hRE := fun i hi => (hI.hr i hi).put hpE (fun b hb => by have := hb.2.2; omega)
 have hWE := (hI.hW.put hI.hrN (by decide) (by decide) (fun b hb => hb.2.1) hpE).mono (Y := X) (fun b _ hb => hb.1)
 have hGE := hI.hG.put hpE (by omega)
 refine Zad <| Zab <| Zap ?_
 have lx := hxE.len
 exact Zae (.agg (NV.cells ⟨3, none, 0, 0, a, n, c, rz, some ⟨gK, 0, none⟩, 16, 16⟩).toArray) (fun _ => Zci Tryz.results190 _ gN ⟨3, none, 0, 0, a, n, c, rz, some ⟨gK, 0, none⟩, 16, 16⟩ rfl (by kernel_rfl) hrE) ⟨_, rfl, ⟨3, none, 0, 0, a, n, c, rz, some ⟨gK, 0, none⟩, 16, 16⟩, vM, rfl, ⟨rfl, Zmh _, hxE.agk (by omega), Zgc _, ⟨(by simp [nodeP]), Nat.le_refl _, (by show 16 <= maxLen; unfold maxLen; omega), (by show 16 <= _; omega), fun e => by cases e⟩, Zx2 hKE hRE⟩, hWE, hGE⟩
theorem Zrn (x : Value) : Iv "pergola/trie.node" (.iface 131 x) 179 x := Zf7 fun w vs => by kernel_rfl
theorem Zro (x : Value) : Iv "pergola/trie.node" (.iface 226 x) 197 x := Zf7 fun w vs => by kernel_rfl
theorem Zrp (x : Value) : Iv "pergola/trie.node" (.iface 221 x) 190 x := Zf7 fun w vs => by kernel_rfl
def NDS (t : Tr) : Prop := ∀ {v : World} {gW base : Nat} {vM : Value} {Y Z : Nat -> Prop} {ns : List (List Int)} {val : Value}, TA (KW gW vM Z) v t val -> Wt v gW base vM Y ns -> (∀ b, v.heap.size <= b -> Y b) -> (ns ++ nmd t).length + 1 <= 8800000000000 -> MC "pergola/trie.node" val #[.pointer (some ⟨gW, 0, none⟩)] v (RNd v gW base vM Y ns t)
theorem Zl0 {t : Tr} (hne : t ≠ no) (h : NDS t) {v : World} {gW base : Nat} {vM : Value} {Y Z : Nat -> Prop} {ns : List (List Int)} {val : Value} (ht : TA (KW gW vM Z) v t val) (hW : Wt v gW base vM Y ns) (hY : ∀ b, v.heap.size <= b -> Y b) (hM : (ns ++ nmd t).length + 1 <= 8800000000000) :
  Calls Tryz.prog 40 #[.pointer (some ⟨gW, 0, none⟩), val] v fun e w' => ∃ u, e = .returned u /\ REn v gW base vM Y ns t u w' := by
 have hm := h ht hW hY hM
 obtain ⟨T0, v0, rfl⟩ := ht.iface hne
 exact Zo7 hne hm
theorem Zvu {t : Tr} (hne : t ≠ no) (h : NDS t) : RFS t := by
 intro v gW base vM Y Z ns val ht hW hY hM
 have hE : ∀ v', Bl v v' -> ∀ Y' : Nat -> Prop, Wt v' gW base vM Y' ns -> (∀ b, v'.heap.size <= b -> Y' b) -> Calls Tryz.prog 40 #[.pointer (some ⟨gW, 0, none⟩), val] v' fun e w' => ∃ u, e = .returned u /\ REn v' gW base vM Y' ns t u w' :=
  fun v' hb Y' hW' hY' => Zl0 hne h (ht.go hb) hW' hY' hM
 obtain ⟨T0, v0, rfl⟩ := ht.iface hne
 by_cases hs : (encT t).length < 32
 ·exact Zj3 hW hY hE hM hs
 ·exact Zlj hW hY hE hM hs
theorem Zq4 (t : Tr) : ∀ {B : Nat}, Tr.Ok B t -> B <= 64 -> NDS t := by
 induction t with
 | no => intro B hO; exact hO.elim
 | leaf p x =>
  intro B hO h64 v gW base vM Y Z ns val ht hW hY hM
  obtain ⟨a1, n1, c1, a2, n2, c2, rfl, h1, h2, h3⟩ := ht
  exact ⟨_, _, _, rfl, Zrn _, Zre hW h1 h2 (by have := h1.len; have := hO.2.1; omega) h3⟩
 | ext p t ih =>
  intro B hO h64 v gW base vM Y Z ns val ht hW hY hM
  obtain ⟨a1, n1, c1, u, rfl, h1, h2⟩ := ht
  obtain ⟨o1, o2, o3, o4, o5⟩ := hO
  have hne : t ≠ no := fun e => by rw [e] at o4; simp [isBr] at o4
  have hR : RFS t := Zvu hne (ih o5 (by omega))
  have hM' : (ns ++ nmd t).length + 1 <= 8800000000000 := by
   simp only [nmd, List.length_append] at hM ⊢
   omega
  obtain ⟨Tu, xu, rfl⟩ := h2.iface hne
  exact ⟨_, _, _, rfl, Zro _, Zr8 hW h1 (by have := h1.len; omega) hY (fun v' hb Y' hW' hY' => hR (h2.go hb) hW' hY' hM')⟩
 | br k x ih =>
  intro B hO h64 v gW base vM Y Z ns val ht hW hY hM
  obtain ⟨vs, a1, n1, c1, rfl, h1, h2, h3⟩ := ht
  refine ⟨_, _, _, rfl, Zrp _, Zsu hW h1 h2 h3 hY (fun i hi => ?_) hM⟩
  rcases hO.1 i with h | ⟨_, _, h⟩
  ·exact .inl h
  ·exact .inr (Zvu h.ne (ih i h (by omega)))
end Go.Proofs.YtefhepcplempkaaGreat
namespace Go.Proofs.YtefhepcplempkaaGreat
open Go.RowKit
open Tr
open Di (dref)
def rootP (t : Tr) : List Int := if t.isNo then dref [128] else dref (encT t)
theorem Wg.below {w v u : World} {gW : Nat} {vN vM : Value} (h : Wg v u gW vN vM) (hb : Bl w v) (hg : w.heap.size <= gW) (hv : vN.ownBlock = none) : Bl w u :=
 Below.trans hb ⟨h.os, h.tape, h.output, h.size, fun k hk => h.block k (Nat.lt_of_lt_of_le hk hb.size) (by omega) (by rw [hv]; simp)⟩
theorem Wt.new {w w' : World} {gW : Nat} (h : New w w' gW #[.slice none 0 0] 80) : Wt w' gW gW (.slice none 0 0) (fun _ => True) [] := ⟨h.row, ⟨[], ⟨rfl, .inl ⟨rfl, rfl⟩⟩, rfl, fun j v hj => by simp at hj⟩, Nat.le_refl _⟩
set_option maxHeartbeats 4000000 in
theorem Ztr {K : Nat -> Prop} {w : World} {g : Nat} {t : Tr} {T0 : TypeId} {v0 : Value} (hr : Rw g w #[.iface T0 v0] 76) (ht : TA K w t (.iface T0 v0)) (hO : Tr.Ok 64 t) (hne : t ≠ no) (hM : (nmd t).length + 1 <= 8800000000000) :
  Calls Tryz.prog 14 #[.pointer (some ⟨g, 0, none⟩)] w fun e w' => ∃ u, e = .returned u /\ (fun u w' => u = .agg (B8 (dref (encT t))) /\ Bl w w') u w' := by
 have hB := Bl.refl w
 have hdl := dref_len (encT t)
 obtain ⟨ds, hds⟩ : ∃ ds, dref (encT t) = ds := ⟨_, rfl⟩
 rw [hds] at hdl ⊢
 replace ht := ht.old
 refine Zaj Tryz.func14 rfl 16 rfl ?_
 show CW _ _ _ _ _ _ _ [(0, .pointer (some ⟨g, 0, none⟩))] _
 refine Zac <| Zaa <| Zax 2 (B8 z32) 35 (fun _ => by kernel_rfl) (fun _ => by kernel_rfl) ?_
 intro w1 g2 hn3
 replace hB := hB.go hn3.below
 replace hr := hr.go hn3.below
 replace ht := ht.go hn3.below
 have hr4 : Rw g2 w1 (B8 z32) 35 := hn3.row
 have hgd := hn3.hg
 refine Zad <| Zab <| Zac <| Zac <| Zaa <| rp 3 (.pointer (some ⟨g, 0, none⟩)) <| rp 4 (.pointer (some ⟨g, 0, none⟩)) <| rp 5 (.pointer (some ⟨g, 0, none⟩)) <| rv 6 (.iface T0 v0) (fun _ => Zah 74 _ ⟨g, 0, none⟩ _ _ rfl (by kernel_rfl) (by rw [cell_of_row _ _ _ _ _ _ hr]; rfl) Tryz.underlying74 rfl) <| rp 7 (.bool false) <| Zad <| Zab ?_
 refine Zai (fun _ => by kernel_rfl) <| Zan <| Zab <| Zac <| Zaa <| Zax 9 #[.slice none 0 0] 80 (fun _ => by kernel_rfl) (fun _ => by kernel_rfl) ?_
 intro wW gW hnW
 have hzW := hB.size
 replace hB := hB.go hnW.below
 replace hr := hr.go hnW.below
 replace ht := ht.go hnW.below
 replace hr4 := hr4.go hnW.below
 have hgW := hnW.hg
 have hWt := Wt.new hnW
 refine rp 10 (.pointer (some ⟨g, 0, none⟩)) <| rp 11 (.pointer (some ⟨g, 0, none⟩)) <| rp 12 (.pointer (some ⟨g, 0, none⟩)) <| rv 13 (.iface T0 v0) (fun _ => Zah 74 _ ⟨g, 0, none⟩ _ _ rfl (by kernel_rfl) (by rw [cell_of_row _ _ _ _ _ _ hr]; rfl) Tryz.underlying74 rfl) <| Zao 14 40 #[.pointer (some ⟨gW, 0, none⟩), .iface T0 v0] (fun _ => by kernel_rfl) (fun _ => by kernel_rfl) (R := REn wW gW gW (.slice none 0 0) (fun _ => True) [] t) (Zl0 hne (Zq4 t hO (by omega)) (ht.mono (K' := KW gW (.slice none 0 0) (fun _ => True)) (fun b hb => ⟨by omega, by simp [Value.ownBlock], trivial⟩)) hWt (fun _ _ => trivial) (by simpa using hM)) ?_
 rintro _ u1 ⟨a2, n2, c2, vM, rfl, hs2, hW1, hG, hen⟩
 replace hr4 := hr4.wg hG hWt (by decide) (by decide)
 replace hB := hG.below hB (by omega) rfl
 clear hr ht hWt
 have l2 := hs2.len
 refine Zao 15 39 #[.slice a2 n2 c2] (fun _ => by kernel_rfl) (fun _ => by kernel_rfl) (R := fun u w' => u = .agg (B8 ds) /\ Bl u1 w') ((Zjq a2 n2 c2 (encT t) u1 hs2.ag (by omega)).mono (fun e w' h => ⟨_, by rw [h.1, hds], rfl, h.2⟩)) ?_
 rintro _ u2 ⟨rfl, hb2⟩
 replace hr4 := hr4.go hb2
 replace hB := hB.go hb2
 refine Zbm g2 (B8 ds) (fun _ => by kernel_rfl) (fun _ => Za3 35 _ _ _ _ _ _ rfl (by kernel_rfl) (by kernel_rfl) hr4 (Ze2 hdl) (Zis hdl) (B8_one _)) ?_
 intro uE hpE
 replace hB : Bl w uE := hpE.below hB (by omega) hB.size
 have hrE : Rw g2 uE (B8 ds) 35 := hpE.row hr4
 refine Zad <| Zab <| Zap ?_
 exact Zae (.agg (B8 ds)) (fun _ => Zkg Tryz.results14 _ g2 ds hdl (by kernel_rfl) hrE) ⟨_, rfl, rfl, hB⟩
theorem Zmv {K : Nat -> Prop} {w : World} {g : Nat} {t : Tr} (h : Tri K w g t) (hM : (nmd t).length + 1 <= 8800000000000) :
  Calls Tryz.prog 14 #[.pointer (some ⟨g, 0, none⟩)] w fun e w' => ∃ u, e = .returned u /\ u = .agg (B8 (rootP t)) /\ Bl w w' := by
 obtain ⟨⟨v, h1, h2⟩, h3⟩ := h
 rcases h3 with rfl | hO
 ·rw [show v = .nilIface from h2] at h1
  exact Zw8 h1
 ·have hne := hO.ne
  obtain ⟨T0, v0, rfl⟩ := h2.iface hne
  rw [show rootP t = dref (encT t) from by unfold rootP; rw [if_neg (fun e => hne (isNo_iff.1 e))]]
  exact Ztr h1 h2 hO hne hM
end Go.Proofs.YtefhepcplempkaaGreat
namespace Go.Proofs.YtefhepcplempkaaGreat
namespace Tr
def sz : Tr -> Nat
 | no => 0
 | leaf _ _ => 1
 | ext _ c => sz c + 1
 | br k _ => ((List.range 16).map fun i => sz (k i)).sum + 1
theorem Zvo (k : Nat -> Tr) (i : Nat) (t : Tr) (m : Nat) (h : sz t <= sz (k i) + m) : ∀ n, ((List.range n).map fun j => sz (upd k i t j)).sum <= ((List.range n).map fun j => sz (k j)).sum + (if i < n then m else 0)
 | 0 => by simp
 | n + 1 => by
  have ih := Zvo k i t m h n
  rw [List.range_succ, List.map_append, List.map_append, List.sum_append, List.sum_append]
  simp only [List.map_cons, List.map_nil, List.sum_cons, List.sum_nil, Nat.add_zero]
  by_cases e : n = i
  ·subst e
   rw [Za7, if_pos (by omega)]
   rw [if_neg (by omega)] at ih
   omega
  ·rw [Za4 k t e]
   by_cases h2 : i < n
   ·rw [if_pos (by omega)]; rw [if_pos h2] at ih; omega
   ·rw [if_neg (by omega)]; rw [if_neg h2] at ih; omega
theorem Zlp (k : Nat -> Tr) (i : Nat) (t : Tr) (m : Nat) (x y : List Int) (h : sz t <= sz (k i) + m) : sz (br (upd k i t) x) <= sz (br k y) + m := by
 have := Zvo k i t m h 16
 simp only [sz]
 split at this <;> omega
theorem Zpx (p : List Int) (t : Tr) : sz (und p t) <= sz t + 1 := by
 cases t with
 | no => simp [und, sz]
 | leaf q v => simp [und, sz]
 | ext q c => simp [und, sz]
 | br k v =>
  simp only [und]
  split
  ·omega
  ·simp only [sz]; omega
theorem Zpy (k : Nat -> Tr) (x q v : List Int) : sz (add k x q v) <= sz (br k x) + 1 := by
 cases q with
 | nil => simp only [add, sz]; omega
 | cons i r => exact Zlp k i.toNat (leaf r v) 1 x x (by simp only [sz]; omega)
theorem Zwy (t : Tr) (q v : List Int) : sz (addT t q v) <= sz t + 1 := by
 cases t with
 | br k x => exact Zpy k x q v
 | no => simp [addT]
 | leaf p x => simp [addT]
 | ext p c => simp [addT]
theorem Zzh (x : List Int) : sz (br nk x) = 1 := by
 simp only [sz]
 have : ((List.range 16).map fun i => sz (nk i)) = (List.range 16).map fun _ => 0 := by simp [nk, sz]
 rw [this]; rfl
theorem Zzg : ∀ (t : Tr) (q v : List Int), sz (put t q v) <= sz t + 3 := by
 intro t
 induction t with
 | no => intro q v; simp [put, sz]
 | leaf p x =>
  intro q v
  simp only [put]
  split
  ·simp [sz]
  ·have h1 := Zpx (q.take (Ni.com p q)) (addT (add nk [] (p.drop (Ni.com p q)) x) (q.drop (Ni.com p q)) v)
   have h2 := Zwy (add nk [] (p.drop (Ni.com p q)) x) (q.drop (Ni.com p q)) v
   have h3 := Zpy nk [] (p.drop (Ni.com p q)) x
   have h4 := Zzh []
   have h5 : sz (leaf p x) = 1 := rfl
   omega
 | ext p c ih =>
  intro q v
  simp only [put]
  split
  ·have := ih (q.drop p.length) v
   simp only [sz]; omega
  ·have h1 := Zpx (q.take (Ni.com p q)) (add (upd nk (p.getD (Ni.com p q) 0).toNat (und (p.drop (Ni.com p q + 1)) c)) [] (q.drop (Ni.com p q)) v)
   have h2 := Zpy (upd nk (p.getD (Ni.com p q) 0).toNat (und (p.drop (Ni.com p q + 1)) c)) [] (q.drop (Ni.com p q)) v
   have h3 := Zlp nk (p.getD (Ni.com p q) 0).toNat (und (p.drop (Ni.com p q + 1)) c) (sz c + 1) [] [] (by have := Zpx (p.drop (Ni.com p q + 1)) c; omega)
   have h4 := Zzh []
   have h5 : sz (ext p c) = sz c + 1 := rfl
   omega
 | br k x ih =>
  intro q v
  cases q with
  | nil => simp [put, sz]
  | cons i r => exact Zlp k i.toNat (put (k i.toNat) r v) 3 x x (ih i.toNat r v)
theorem Zvr (f g : Nat -> Nat) (h : ∀ i, f i <= g i) : ∀ l : List Nat, (l.map f).sum <= (l.map g).sum
 | [] => Nat.le_refl _
 | a :: l => by simp only [List.map_cons, List.sum_cons]; have := h a; have := Zvr f g h l; omega
theorem Zqy (b : List Int) : (nm1 b).length <= 1 := by unfold nm1; split <;> simp
theorem Zxw : ∀ t : Tr, (nmd t).length + (if t.isNo then 0 else 1) <= sz t := by
 intro t
 induction t with
 | no => simp [nmd, isNo, sz]
 | leaf p x => simp [nmd, isNo, sz]
 | ext p c ih =>
  simp only [nmd, isNo, sz, List.length_append, Bool.false_eq_true, if_false]
  have h1 := Zqy (encT c)
  by_cases hc : c.isNo = true
  ·rw [if_pos hc] at ih
   cases c with
   | no => simp [encT, nm1, nmd, sz]
   | leaf p x => simp [isNo] at hc
   | ext p x => simp [isNo] at hc
   | br p x => simp [isNo] at hc
  ·rw [if_neg hc] at ih; omega
 | br k x ih =>
  rw [show (br k x).isNo = false from rfl]
  simp only [nmd, sz, Bool.false_eq_true, if_false, List.length_flatMap]
  have := Zvr (fun i => (if (k i).isNo then [] else nmd (k i) ++ nm1 (encT (k i))).length) (fun i => sz (k i)) (fun i => by
   have h1 := Zqy (encT (k i))
   have h2 := ih i
   by_cases hc : (k i).isNo = true
   ·simp [hc]
   ·rw [if_neg hc] at h2
    simp only [hc, Bool.false_eq_true, if_false, List.length_append]
    omega) (List.range 16)
  omega
theorem Zz0 (t : Tr) : (nmd t).length <= sz t := by have := Zxw t; omega
end Tr
open Tr
theorem Zww (t : Tr) (k x : List Int) : Tr.sz (putT t k x) <= Tr.sz t + 3 := by
 unfold putT
 split
 ·exact Zzg _ _ _
 ·omega
end Go.Proofs.YtefhepcplempkaaGreat

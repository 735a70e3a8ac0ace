/- A writer of proofs: the groups of a branch's entries, and what holds while its kids are written. -/
import Derived.Test.YtefhepcplempkaaGreatG28
import Derived.Test.YtefhepcplempkaaGreatG26
import Derived.Test.YtefhepcplempkaaGreatG00
import Derived.Test.YtefhepcplempkaaGreatG18
import Derived.Test.YtefhepcplempkaaGreatG23
import Derived.Test.YtefhepcplempkaaGreatG27
import Derived.Test.YtefhepcplempkaaGreatG19
set_option linter.unusedVariables false
set_option maxRecDepth 100000
namespace Go.Proofs.YtefhepcplempkaaGreat
open Go.RowKit
open Tr
def grp (pre : List Int) (k : Nat -> Tr) (i : Nat) : PList := entN (pre ++ [((i : Nat) : Int)]) (k i)
def remK (pre : List Int) (k : Nat -> Tr) (j : Nat) : PList := (List.range' j (16 - j)).flatMap (grp pre k)
theorem Ztu (pre : List Int) (k : Nat -> Tr) : remK pre k 16 = [] := rfl
theorem Zgy (pre : List Int) (k : Nat -> Tr) {j : Nat} (hj : j < 16) : remK pre k j = grp pre k j ++ remK pre k (j + 1) := by
 unfold remK
 rw [show 16 - j = (16 - (j + 1)) + 1 from by omega, List.range'_succ, List.flatMap_cons]
theorem Zv8 {pre : List Int} {k : Nat -> Tr} {i : Nat} (h : k i = no) : grp pre k i = [] := by simp [grp, entN, h, entsR]
theorem Zl6 (pre : List Int) (k : Nat -> Tr) (x : List Int) : entN pre (br k x) = (if x = [] then [] else [(pre, x)]) ++ remK pre k 0 := by
 unfold entN remK
 rw [Zjl, List.map_append, List.map_flatMap]
 congr 1
 ·split <;> simp
 ·rw [List.range_eq_range']
  congr 1
  funext i
  simp [chnk, grp, entN, List.append_assoc]
theorem Zr0 {pre : List Int} {k : Nat -> Tr} {i : Nat} {e : List Int × List Int} (h : e ∈ grp pre k i) : ∃ p, e.1 = pre ++ ((i : Nat) : Int) :: p := by
 obtain ⟨f, _, rfl⟩ := List.mem_map.1 h
 exact ⟨f.1, by simp⟩
theorem Zmx {pre : List Int} {k : Nat -> Tr} {j : Nat} {e : List Int × List Int} (h : e ∈ remK pre k j) : ∃ (i : Nat) (p : List Int), j <= i /\ i < 16 /\ e.1 = pre ++ ((i : Nat) : Int) :: p := by
 obtain ⟨i, hi, h2⟩ := List.mem_flatMap.1 h
 obtain ⟨p, hp⟩ := Zr0 h2
 rw [List.mem_range'_1] at hi
 exact ⟨i, p, hi.1, by omega, hp⟩
theorem Zkh (pre : List Int) (k : Nat -> Tr) : ∀ d j : Nat, j + d = 16 -> remK pre k j ≠ [] -> ∃ i, j <= i /\ i < 16 /\ k i ≠ no /\ (∀ m, j <= m -> m < i -> k m = no) /\ remK pre k j = remK pre k i
 | 0, j, h, hne => by
  have : j = 16 := by omega
  subst this
  exact absurd (Ztu pre k) hne
 | d + 1, j, h, hne => by
  by_cases hk : k j = no
  ·have e : remK pre k j = remK pre k (j + 1) := by rw [Zgy pre k (by omega), Zv8 hk, List.nil_append]
   rw [e] at hne
   obtain ⟨i, h1, h2, h3, h4, h5⟩ := Zkh pre k d (j + 1) (by omega) hne
   exact ⟨i, by omega, h2, h3, fun m hm hmi => by
    rcases Nat.eq_or_lt_of_le hm with q | q
    ·rw [<- q]; exact hk
    ·exact h4 m q hmi, e.trans h5⟩
  ·exact ⟨j, Nat.le_refl _, by omega, hk, fun m h1 h2 => by omega, rfl⟩
theorem Ztt {pre : List Int} {k : Nat -> Tr} {B : Nat} (hO : ∀ i, k i = no \/ (i < 16 /\ 1 <= B /\ Tr.Ok (B - 1) (k i))) {j : Nat} (h : remK pre k j = []) {m : Nat} (hm : j <= m) : k m = no := by
 rcases hO m with q | ⟨q1, _, q3⟩
 ·exact q
 ·exfalso
  have hg : grp pre k m = [] := by
   unfold remK at h
   rw [List.flatMap_eq_nil_iff] at h
   exact h m (by rw [List.mem_range'_1]; omega)
  unfold grp entN at hg
  rw [List.map_eq_nil_iff] at hg
  exact Zhn _ q3 hg
def wyK (kp pre : List Int) (k : Nat -> Tr) (i : Nat) : List (List Int) := if (k i).isNo then [] else wyN kp (k i) (pre ++ [((i : Nat) : Int)]) ++ wy1 kp (pre ++ [((i : Nat) : Int)]) (k i)
def wyJ (kp pre : List Int) (k : Nat -> Tr) (j : Nat) : List (List Int) := (List.range j).flatMap (wyK kp pre k)
theorem Zep (kp pre : List Int) (k : Nat -> Tr) (j : Nat) : wyJ kp pre k (j + 1) = wyJ kp pre k j ++ wyK kp pre k j := by simp [wyJ, List.range_succ, List.flatMap_append]
theorem Zit (kp pre : List Int) (k : Nat -> Tr) (i : Nat) : ∀ d, (wyJ kp pre k i).length <= (wyJ kp pre k (i + d)).length
 | 0 => Nat.le_refl _
 | d + 1 => by rw [<- Nat.add_assoc, Zep, List.length_append]; have := Zit kp pre k i d; omega
theorem isNo_iff {t : Tr} : t.isNo = true ↔ t = no := by cases t <;> simp [Tr.isNo]
theorem Wp.st {X : Nat -> Prop} {w w' : World} {gW base g : Nat} {PV : Value} {vN : Value} {ns : List (List Int)} {old : Array Value} {T : TypeId} (h : Wp w gW PV base vN X ns) (hr : w.heap[g]? = some (.cells old T (0, 0))) (h1 : T ≠ 23) (h2 : T ≠ 59) (hX : ∀ b, X b -> b ≠ g) (hp : St w w' g) : Wp w' gW PV base vN X ns := by
 obtain ⟨vals, ⟨q1, ho⟩, hv⟩ := h.o
 have hne : gW ≠ g := by
  rintro rfl
  have := h.r
  rw [Rw, hr] at this
  simp at this
  exact h2 this.2
 refine ⟨(hp.other _ hne).trans h.r, ⟨vals, ⟨q1, ?_⟩, hv.1, fun j u hu => ?_⟩, h.b⟩
 case refine_2 =>
  obtain ⟨a, n, c, e, hs⟩ := hv.2 j u hu
  exact ⟨a, n, c, e, hs.st hp (fun b hb => hX b hb.2.2)⟩
 rcases ho with q | ⟨g', cap, cur, e1, e2, e3, e4⟩
 ·exact .inl q
 ·refine .inr ⟨g', cap, cur, e1, e2, (hp.other _ ?_).trans e3, e4⟩
  rintro rfl
  rw [hr] at e3
  simp at e3
  exact h1 e3.2
theorem PAt.st {K : Nat -> Prop} {w w' : World} {a : Option Addr} {n c : Nat} {vs : List (Value × Value)} {l : PList} {g : Nat} (h : PAt K w a n c vs l) (hp : St w w' g) (hK : ∀ b, K b -> b ≠ g) : PAt K w' a n c vs l := h.keep (fun b hb _ => ⟨hp.other b (hK b hb), hb⟩)
theorem Kr.wgp {gK : Nat} {w w' : World} {gW base : Nat} {PV : Value} {X : Nat -> Prop} {vN vN' : Value} {ns : List (List Int)} {ys : Nat -> RV} (h : Kr gK w ys) (hg : Wg w w' gW vN vN') (hw : Wp w gW PV base vN X ns) : Kr gK w' ys := by
 obtain ⟨cur, h1, h2⟩ := h.row
 exact h.same ((hg.rowp hw h1 (by decide) (by decide)).trans h1.symm)
abbrev NY (av : Option Addr) (nv cv gK : Nat) : NV := ⟨3, none, 0, 0, av, nv, cv, rz, some ⟨gK, 0, none⟩, 16, 16⟩
structure BQ (w : World) (gW : Nat) (PV : Value) (base : Nat) (vN : Value) (X : Nat -> Prop) (ns : List (List Int)) (kp pre : List Int) (k : Nat -> Tr) (av : Option Addr) (nv cv : Nat) (x : List Int) (g6 g7 gK : Nat) (j : Nat) (vM : Value) (ys : Nat -> RV) (al : Option Addr) (nl cl : Nat) (v : World) : Prop where
 h6 : Rw g6 v nz.cells.toArray 68
 h7 : Rw g7 v (NY av nv cv gK).cells.toArray 68
 hK : Kr gK v ys
 hl : ∃ vs, PAt (KW gW vM (fun b => b < w.heap.size)) v al nl cl vs (remK pre k j)
 hx : Sk (KW gW vM (fun b => b < w.heap.size)) v av nv cv x
 hr : ∀ i, i < 16 -> Rf (KW gW vM (fun b => gK < b)) v (ys i) (if i < j then rP k i else r0)
 hW : Wp v gW PV base vM (fun b => X b /\ b ≠ g6 /\ b ≠ g7 /\ b ≠ gK) (ns ++ wyJ kp pre k j)
 hG : Wg w v gW vN vM
section
variable {w : World} {gW : Nat} {PV : Value} {base : Nat} {vN : Value} {X : Nat → Prop} {ns : List (List Int)} {kp pre : List Int} {k : Nat → Tr} {av : Option Addr} {nv cv : Nat} {x : List Int} {g6 g7 gK : Nat} {j : Nat} {vM : Value} {ys : Nat → RV} {al : Option Addr} {nl cl : Nat} {v : World}
theorem BQ.skip (h : BQ w gW PV base vN X ns kp pre k av nv cv x g6 g7 gK j vM ys al nl cl v) (hj : j < 16) (hno : k j = no) : BQ w gW PV base vN X ns kp pre k av nv cv x g6 g7 gK (j + 1) vM ys al nl cl v := by
 have hn : (k j).isNo = true := isNo_iff.2 hno
 refine ⟨h.h6, h.h7, h.hK, by have := h.hl; rw [Zgy pre k hj, Zv8 hno, List.nil_append] at this; exact this, h.hx, fun i hi => ?_, by rw [Zep, show wyK kp pre k j = [] from by unfold wyK; rw [if_pos hn], List.append_nil]; exact h.hW, h.hG⟩
 have := h.hr i hi
 by_cases e : i = j
 ·subst e
  rw [if_neg (by omega)] at this
  rw [if_pos (by omega), show rP k i = r0 from by unfold rP; rw [if_pos hn]]
  exact this
 ·by_cases h1 : i < j
  ·rw [if_pos h1] at this; rw [if_pos (by omega)]; exact this
  ·rw [if_neg h1] at this; rw [if_neg (by omega)]; exact this
theorem BQ.to (i : Nat) : ∀ d j : Nat, j + d = i → i ≤ 16 → BQ w gW PV base vN X ns kp pre k av nv cv x g6 g7 gK j vM ys al nl cl v → (∀ m, j ≤ m → m < i → k m = no) → BQ w gW PV base vN X ns kp pre k av nv cv x g6 g7 gK i vM ys al nl cl v
  | 0, j, hd, _, h, _ => by have : j = i := by omega
                            subst this; exact h
  | d + 1, j, hd, hi, h, hn => BQ.to i d (j + 1) (by omega) hi (h.skip (by omega) (hn j (Nat.le_refl _) (by omega))) (fun m h1 h2 => hn m (by omega) h2)
theorem BQ.step (h : BQ w gW PV base vN X ns kp pre k av nv cv x g6 g7 gK j vM ys al nl cl v) (hj : j < 16) (hno : k j ≠ no) (hg1 : w.heap.size <= g6) (hg2 : g6 < gK) (hg3 : gK < g7)
  {y : RV} {vP : Value} {u : World} (hRf : Rf (KW gW vP (fun b => v.heap.size < b)) u y (referP (encT (k j)))) (hW : Wp u gW PV base vP (fun b => X b /\ b ≠ g6 /\ b ≠ g7 /\ b ≠ gK) ((ns ++ wyJ kp pre k j) ++ (wyN kp (k j) (pre ++ [((j : Nat) : Int)]) ++ wy1 kp (pre ++ [((j : Nat) : Int)]) (k j)))) (hG : Wg v u gW vM vP) {al' : Option Addr} {nl' cl' : Nat} (hl' : ∃ vs, PAt (KW gW vM (fun b => b < w.heap.size)) v al' nl' cl' vs (remK pre k (j + 1))) :
  Kr gK u ys /\ Rw g7 u (NY av nv cv gK).cells.toArray 68 /\ BQ w gW PV base vN X ns kp pre k av nv cv x g6 g7 gK (j + 1) vP (updR ys j y) al' nl' cl' (u.setCells gK (0 + j * 34) y.cells) := by
 have hn : (k j).isNo = false := by cases hq : (k j).isNo; rfl; exact absurd (isNo_iff.1 hq) hno
 have hKu := h.hK.wgp hG h.hW
 have hlt := h.hK.lt
 have hst := St.of u gK (0 + j * 34) y.cells
 have hyl := hRf.at'.len
 obtain ⟨cur, hc1, hc2⟩ := hKu.row
 obtain ⟨vs, hl'⟩ := hl'
 have h7u := h.h7.wgp hG h.hW (by decide) (by decide)
 refine ⟨hKu, h7u, (h.h6.wgp hG h.hW (by decide) (by decide)).st hst (by omega), h7u.st hst (by omega), hKu.put hj hyl, ⟨vs, (hl'.wg hG).st hst (fun b hb => by have := hb.2.2; omega)⟩, (h.hx.wg hG).st hst (fun b hb => by have := hb.2.2; omega), fun i hi => ?_, ?_, (h.hG.trans hG).st hst (by omega)⟩
 ·by_cases e : i = j
  ·subst e
   rw [if_pos (by omega), show updR ys i y i = y from by simp [updR], show rP k i = referP (encT (k i)) from by unfold rP; rw [if_neg (by simp [hn])]]
   exact (hRf.mono (fun b hb => ⟨hb.1, hb.2.1, by have := hb.2.2; omega⟩)).st hst (fun b hb => by have := hb.2.2; omega)
  ·rw [show updR ys j y i = ys i from by simp [updR, e]]
   have q := ((h.hr i hi).wg hG).st hst (fun b hb => by have := hb.2.2; omega)
   by_cases h1 : i < j
   ·rw [if_pos h1] at q; rw [if_pos (by omega)]; exact q
   ·rw [if_neg h1] at q; rw [if_neg (by omega)]; exact q
 ·have e : ns ++ wyJ kp pre k (j + 1) = (ns ++ wyJ kp pre k j) ++ (wyN kp (k j) (pre ++ [((j : Nat) : Int)]) ++ wy1 kp (pre ++ [((j : Nat) : Int)]) (k j)) := by rw [Zep, show wyK kp pre k j = _ from by unfold wyK; rw [if_neg (by simp [hn])], List.append_assoc]
  rw [e]
  exact hW.st hc1 (by decide) (by decide) (fun b hb => hb.2.2.2) hst
end
theorem Zz8 {K Q : Nat -> Prop} {w : World} {gK : Nat} {ys : Nat -> RV} {k : Nat -> Tr} {x : List Int} (h : Kr gK w ys) (hr : ∀ i, i < 16 -> Rf K w (ys i) (rP k i)) (hQ : ∀ b, K b -> Q b) (hg : Q gK) : KidsAt Q w (some ⟨gK, 0, none⟩) (nodeP (br k x)).ks := fun j r hj => by
 have hlt : j < 16 := by
  have := (List.getElem?_eq_some_iff.1 hj).1
  simpa [nodeP] using this
 have e : r = rP k j := by
  simp [nodeP, hlt] at hj
  rw [<- hj]; rfl
 subst e
 exact ⟨gK, 0, ys j, rfl, hg, h.rng j hlt, (hr j hlt).at'.go (fun b hb _ => ⟨rfl, hQ b hb⟩)⟩
theorem Zpf : (fun (ka : Option Addr) (kn kc : Nat) => Tryz.prog.built 68 [(0, .int .i64 3), (4, .slice ka kn kc)]) = fun ka kn kc => some (NV.cells ⟨3, none, 0, 0, none, 0, 0, rz, ka, kn, kc⟩).toArray := by kernel_rfl
theorem Zsn (ka : Option Addr) (kn kc : Nat) : Tryz.prog.built 68 [(0, .int .i64 3), (4, .slice ka kn kc)] = some (NV.cells ⟨3, none, 0, 0, none, 0, 0, rz, ka, kn, kc⟩).toArray := congrFun (congrFun (congrFun Zpf ka) kn) kc
def RFQ (kp pre : List Int) (t : Tr) : Prop := ∀ {v : World} {gW base : Nat} {vM : Value} {Y Z : Nat -> Prop} {ns : List (List Int)} {a ap : Option Addr} {n c np cp dp : Nat} {vs : List (Value × Value)}, Wp v gW (.slice ap np cp) base vM Y ns -> PAt (KW gW vM Z) v a n c vs (entN pre t) -> Sk (KW gW vM Z) v ap np cp kp -> (∀ b, v.heap.size <= b -> Y b) -> (ns ++ wyN kp t pre).length + 1 <= 8800000000000 -> n <= 5000000000000 -> np <= 1000 -> dp = pre.length -> (∀ e ∈ entN pre t, e.1.length <= 1000) -> Calls Tryz.prog 82 #[.pointer (some ⟨gW, 0, none⟩), .slice a n c, .int .i64 ((dp : Nat) : Int)] v fun e w' => ∃ u, e = .returned u /\ RRp v gW (.slice ap np cp) base vM Y ns kp pre t u w'
theorem Zqn {pre p : List Int} {i : Int} : (pre ++ i :: p).getD pre.length 0 = i := by simp [List.getD]
theorem Sk.byteq {K : Nat -> Prop} {w : World} {a : Option Addr} {n c : Nat} {bs : List Int} (h : Sk K w a n c bs) {m : Nat} (hm : m < n) : ∃ g o, a = some ⟨g, o, none⟩ /\ w.cell? ⟨g, o + m * 1, none⟩ = some (.int .u8 (bs.getD m 0)) := by
 rcases h.ag.i with ⟨h1, _⟩ | ⟨gb, off, h1, h2, h3, h4, h5, h7⟩
 ·omega
 ·exact ⟨gb, off, h1, by rw [Nat.mul_one]; exact h7 m (by have := h.len; omega)⟩
theorem Kr.drew {gK : Nat} {w : World} {ys : Nat -> RV} (h : Kr gK w ys) : Kr gK w.drew ys := h.go (Below.refl _ _).drew
section
variable {K : Nat → Prop} {w : World} {a : Option Addr} {n c : Nat} {vs : List (Value × Value)} {l : PList}
theorem PAt.cutFromE (h : PAt K w a n c vs l) (f : Nat) (hf : f <= n) :
  ∃ a' n' c', (∀ (v : World) (ρ : Operand -> Value) (o : Oper) (x y : Operand), o.op = .slice 55 x (some y) none none -> ρ x = .slice a n c -> ρ y = .int .i64 ((f : Nat) : Int) -> (execOp ρ o).run Tryz.prog v = .ok (.value (.slice a' n' c')) v) /\ PAt K w a' n' c' (vs.drop f) (l.drop f) := by
 have hnc := h.nc
 refine ⟨if c = f then a else a.map (·.add (f * 2)), n - f, c - f, ?_, ?_⟩
 ·intro v ρ o x y ho hx hy
  unfold execOp
  rw [ho]
  simp [hx, hy, Instr.sliceAt, run_underlying Tryz.underlying55, Instr.slice, Instr.sliceBounds, Instr.sliceBound, asIntOf, hf, Result.andThen]
 ·refine ⟨by rw [List.length_drop, h.vl], by rw [List.length_drop, h.ll], by omega, fun e => ?_, fun j u hj => ?_, fun j p e h1 h2 => h.gd (f + j) p e (by rw [<- List.getElem?_drop]; exact h1) (by rw [<- List.getElem?_drop]; exact h2), fun x hx hn => ?_⟩
  ·have : a = none := by
    by_cases hc : c = f
    ·rw [if_pos hc] at e; exact e
    ·rw [if_neg hc] at e; simpa using e
   have := h.nil this
   omega
  ·rw [Zfs, List.getElem?_drop] at hj
   obtain ⟨g, off, h1, h2⟩ := h.row _ _ hj
   have hlt : f * 2 + j < (flatP vs).length := (List.getElem?_eq_some_iff.1 hj).1
   rw [Zbv, h.vl] at hlt
   refine ⟨g, off + f * 2, ?_, ?_⟩
   ·rw [if_neg (by omega), h1, Option.map_some, Za1]
   ·rw [show off + f * 2 + j = off + (f * 2 + j) from by omega]; exact h2
  ·rw [if_neg (by omega)] at hx
   cases a with
   | none => cases hx
   | some y => cases hx; show K (y.add _).block; rw [Zfe]; exact h.rk y rfl (by omega)
theorem PAt.cutToE (h : PAt K w a n c vs l) (f : Nat) (hf : f <= n) :
  ∃ a' n' c', (∀ (v : World) (ρ : Operand -> Value) (o : Oper) (x y : Operand), o.op = .slice 55 x none (some y) none -> ρ x = .slice a n c -> ρ y = .int .i64 ((f : Nat) : Int) -> (execOp ρ o).run Tryz.prog v = .ok (.value (.slice a' n' c')) v) /\ PAt K w a' n' c' (vs.take f) (l.take f) := by
 have hnc := h.nc
 have hfc : f <= c := by omega
 refine ⟨if c = 0 then a else a.map (·.add (0 * 2)), f, c, ?_, ?_⟩
 ·intro v ρ o x y ho hx hy
  unfold execOp
  rw [ho]
  simp [hx, hy, Instr.sliceAt, run_underlying Tryz.underlying55, Instr.slice, Instr.sliceBounds, Instr.sliceBound, asIntOf, hfc, Result.andThen]
 ·have hlv := h.vl
  have hll := h.ll
  refine ⟨by rw [List.length_take]; omega, by rw [List.length_take]; omega, by omega, fun e => ?_, fun j u hj => ?_, fun j p e h1 h2 => ?_, fun x hx hn => ?_⟩
  ·have : a = none := by
    by_cases hc : c = 0
    ·rw [if_pos hc] at e; exact e
    ·rw [if_neg hc] at e; simpa using e
   have := h.nil this
   omega
  ·rw [Zfr] at hj
   have hlt : j < ((flatP vs).take (f * 2)).length := (List.getElem?_eq_some_iff.1 hj).1
   rw [List.length_take, Zbv, h.vl] at hlt
   rw [List.getElem?_take_of_lt (by omega)] at hj
   obtain ⟨g, off, h1, h2⟩ := h.row _ _ hj
   exact ⟨g, off, by rw [if_neg (by omega), h1, Option.map_some, Za1]; rfl, h2⟩
  ·have hj1 : j < (vs.take f).length := (List.getElem?_eq_some_iff.1 h1).1
   rw [List.length_take] at hj1
   exact h.gd j p e (by rw [List.getElem?_take_of_lt (by omega)] at h1; exact h1) (by rw [List.getElem?_take_of_lt (by omega)] at h2; exact h2)
  ·rw [if_neg (by omega)] at hx
   cases a with
   | none => cases hx
   | some y => cases hx; show K (y.add _).block; rw [Zfe]; exact h.rk y rfl (by omega)
end
set_option maxHeartbeats 8000000 in
theorem Zxl {w : World} {gW base : Nat} {vN : Value} {X Z Q : Nat -> Prop} {ns : List (List Int)} {kp pre x : List Int} {k : Nat -> Tr} {B : Nat} {a ap : Option Addr} {n c dp np cp : Nat} {vs : List (Value × Value)} (hW : Wp w gW (.slice ap np cp) base vN X ns) (hl : PAt (KW gW vN Z) w a n c vs (entN pre (br k x))) (hkp : Sk (KW gW vN Z) w ap np cp kp) (hnp : np <= 1000) (hpl : ∀ e ∈ entN pre (br k x), e.1.length <= 1000) (hO : Tr.Ok B (br k x)) (hn2_ : 2 <= n) (hnb : n <= 5000000000000) (hxl : x.length <= 1000) (hdp : dp = pre.length) (hX : ∀ b, w.heap.size <= b -> X b) (hQ1 : ∀ b, Z b -> Q b) (hQ2 : ∀ b, w.heap.size <= b -> Q b) (hR : ∀ i, i < 16 -> k i = no \/ RFQ kp (pre ++ [((i : Nat) : Int)]) (k i)) (hM : (ns ++ wyJ kp pre k 16).length + 1 <= 8800000000000) :
  Calls Tryz.prog 83 #[.pointer (some ⟨gW, 0, none⟩), .slice a n c, .int .i64 ((dp : Nat) : Int)] w fun e w' => ∃ u, e = .returned u /\ RNq Q w gW (.slice ap np cp) base vN X ns kp pre (br k x) u w' := by
 have hB := Bl.refl w
 have hW0 := hW
 replace hl : PAt (KW gW vN (fun b => b < w.heap.size /\ Z b)) w a n c vs _ := hl.old.mono (fun b hb => ⟨hb.1.1, hb.1.2.1, hb.2, hb.1.2.2⟩)
 replace hkp : Sk (KW gW vN (fun b => b < w.heap.size)) w ap np cp kp := ⟨hkp.ag, fun q hq hn => ⟨(hkp.k q hq hn).1, (hkp.k q hq hn).2.1, hkp.old hq hn⟩⟩
 have hl0 := hl
 refine Zaj Tryz.func83 rfl 69 rfl ?_
 show CW _ _ _ _ _ _ _ [(0, .pointer (some ⟨gW, 0, none⟩)), (1, .slice a n c), (2, .int .i64 ((dp : Nat) : Int))] _
 refine Zac <| Zaa <| Zax 6 nz.cells.toArray 68 (fun _ => by kernel_rfl) (fun _ => by kernel_rfl) ?_
 intro w1 g6 hn6
 have h6 : Rw g6 w1 nz.cells.toArray 68 := hn6.row
 have hg6 := hn6.hg
 have hs6 := hn6.size
 replace hB := hB.go hn6.below
 refine Zad <| Zab <| Zac <| Zaa <| Zbi 10 kz 65 16 (fun _ => by kernel_rfl) (fun _ => by kernel_rfl) ?_
 intro w2 gK hnK
 have hgK := hnK.hg
 have hsK := hnK.size
 replace hB := hB.go hnK.below
 replace h6 := h6.go hnK.below
 have hK := Kr.new hnK
 refine rv 11 (.agg (NY none 0 0 gK).cells.toArray) (fun _ => Zdb 68 _ [(0, .int .i64 3), (4, .slice (some ⟨gK, 0, none⟩) 16 16)] _ rfl (by kernel_rfl) (Zsn _ _ _)) <| Zax 7 nz.cells.toArray 68 (fun _ => by kernel_rfl) (fun _ => by kernel_rfl) ?_
 intro w3 g7 hn7
 have hg7 := hn7.hg
 refine Zbm g7 (NY none 0 0 gK).cells.toArray (fun _ => by kernel_rfl) (fun _ => Za3 68 _ _ _ _ _ _ rfl (by kernel_rfl) (by kernel_rfl) hn7.row (by rw [Zc1, Zbn (y := (NY none 0 0 gK)) rfl]) (by rw [Zbn (y := (NY none 0 0 gK)) rfl]; rfl) (Zew _)) ?_
 intro w4 hp7
 have hnC := hn7.put hp7
 replace hB := hB.go hnC.below
 replace h6 := h6.go hnC.below
 replace hK := hK.go hnC.below
 have h7 : Rw g7 w4 (NY none 0 0 gK).cells.toArray 68 := hnC.row
 have hord : w.heap.size <= g6 /\ g6 < gK /\ gK < g7 := by omega
 obtain ⟨gE, oE, a1, n1, c1, a2, n2, c2, k1, x1, ea, hej, hc1, hc2, hs1, hs2⟩ := hl.at (j := 0) (by omega)
 subst ea
 have ls1 := hs1.len
 have hb1 := hpl _ (List.mem_of_getElem? hej)
 simp only at hb1
 have hB4 := hB
 refine Zad <| Zab <| Zac <| Zac <| Zaa <| rp 12 (.slice (some ⟨gE, oE, none⟩) n c) <| rv 13 (.pointer (some ⟨gE, oE + 0 * 2, none⟩)) (fun _ => Zau 55 _ _ gE oE 0 n c 2 95 rfl (by kernel_rfl) (by kernel_rfl) (by omega) Tryz.underlying55 (by kernel_rfl)) <| rp 14 (.pointer (some ⟨gE, oE + 0 * 2, none⟩)) <| rv 15 (.slice a1 n1 c1) (fun _ => Zah 23 _ _ _ _ rfl (by kernel_rfl) ((Below.cell hB (block_lt_of_cell hc1)).trans hc1) Tryz.underlying23 rfl) <| rp 16 (.int .i64 n1) <| rp 17 (.int .i64 ((dp : Nat) : Int)) <| rp 18 (.bool ((n1 : Int) == ((dp : Nat) : Int))) ?_
 refine Zad <| Zab ?_
 refine Z0r (fun E v => ∃ av nv cv al nl cl, E = [(1, .slice al nl cl), (7, .pointer (some ⟨g7, 0, none⟩)), (6, .pointer (some ⟨g6, 0, none⟩)), (0, .pointer (some ⟨gW, 0, none⟩)), (2, .int .i64 ((dp : Nat) : Int))] /\ BQ w gW (.slice ap np cp) base vN X ns kp pre k av nv cv x g6 g7 gK 0 vN (fun _ => rz) al nl cl v /\ Sk (KW gW vN (fun b => b < w.heap.size /\ Z b)) w av nv cv x /\ nl <= n) ?_ ?_
 ·skip
  by_cases hx0 : x = []
  ·skip
   have hen : entN pre (br k x) = remK pre k 0 := by rw [Zl6, if_pos hx0]; rfl
   rw [hen] at hl
   obtain ⟨i1, p1, _, _, hk1⟩ := Zmx (show (k1, x1) ∈ remK pre k 0 from by rw [<- hen]; exact List.mem_of_getElem? hej)
   simp only at hk1
   subst hk1
   rw [show ((n1 : Int) == ((dp : Nat) : Int)) = false from beq_eq_false_iff_ne.2 (by rw [<- ls1, hdp, List.length_append, List.length_cons]; omega)]
   refine Zai (fun _ => by kernel_rfl) <| Zan ?_
   exact Zv0 [(1, .slice (some ⟨gE, oE, none⟩) n c), (7, .pointer (some ⟨g7, 0, none⟩)), (6, .pointer (some ⟨g6, 0, none⟩)), (0, .pointer (some ⟨gW, 0, none⟩)), (2, .int .i64 ((dp : Nat) : Int))] (by exact ⟨fun _ => by kernel_rfl, ⟨fun _ => by kernel_rfl, ⟨fun _ => by kernel_rfl, ⟨fun _ => by kernel_rfl, ⟨fun _ => by kernel_rfl, trivial⟩⟩⟩⟩⟩) ⟨none, 0, 0, _, n, c, rfl, ⟨h6, h7, hK, ⟨vs, (hl.mono (fun b hb => ⟨hb.1, hb.2.1, hb.2.2.1⟩)).go hB⟩, by rw [hx0]; exact Sk.nil _ _, fun i hi => by rw [if_neg (by omega)]; exact ⟨Zet _ _⟩, (by rw [show wyJ kp pre k 0 = [] from rfl, List.append_nil]; exact (hW0.mono (Y := fun b => X b /\ b ≠ g6 /\ b ≠ g7 /\ b ≠ gK) (fun b hb hx => ⟨hx, by omega, by omega, by omega⟩)).go hB), Wg.of_below hB⟩, by rw [hx0]; exact Sk.nil _ _, Nat.le_refl _⟩
  ·skip
   have hen : entN pre (br k x) = (pre, x) :: remK pre k 0 := by rw [Zl6, if_neg hx0]; rfl
   rw [hen] at hl hej
   cases hej
   rw [show ((n1 : Int) == ((dp : Nat) : Int)) = true from beq_iff_eq.2 (by rw [<- ls1, hdp])]
   refine Zak (fun _ => by kernel_rfl) ?_
   obtain ⟨aT, nT, cT, hrT, hlT⟩ := hl.cutFromE 1 (by omega)
   refine Zaz (fun v => Bl w v) (by kernel_rfl) (hB.drew) ?_
   replace hB := hB.drew
   replace h6 := h6.drew
   replace hK := hK.drew
   replace h7 := h7.drew
   refine dt 0 19 (.slice (some ⟨gE, oE, none⟩) n c) (fun v hv _ => by kernel_rfl) hB <| dt 1 20 (.pointer (some ⟨gE, oE + 0 * 2, none⟩)) (fun v hv _ => Zau 55 _ _ gE oE 0 n c 2 95 rfl (by kernel_rfl) (by kernel_rfl) (by omega) Tryz.underlying55 (by kernel_rfl)) hB <| dt 2 21 (.pointer (some ⟨gE, oE + 0 * 2 + 1, none⟩)) (fun v hv _ => by kernel_rfl) hB <| dt 3 22 (.slice a2 n2 c2) (fun v hv _ => Zah 23 _ _ _ _ rfl (by kernel_rfl) ((Below.cell hv (block_lt_of_cell hc2)).trans hc2) Tryz.underlying23 rfl) hB <| dt 4 23 (.slice (some ⟨gE, oE, none⟩) n c) (fun v hv _ => by kernel_rfl) hB <| dt 5 24 (.slice aT nT cT) (fun v hv _ => hrT _ _ _ _ _ rfl (by kernel_rfl) (by kernel_rfl)) hB <| dt 6 25 (.pointer (some ⟨g7, 2, none⟩)) (fun v hv _ => by kernel_rfl) hB <| Zaf [7] (by kernel_rfl) (by simp) ?_
   refine Zb5 7 g7 2 (.slice a2 n2 c2) rfl (fun _ => by kernel_rfl) (fun _ => Zbo 23 _ _ g7 2 _ 68 _ h7 rfl (by kernel_rfl) (by kernel_rfl) (by show 2 < 38; omega) rfl rfl (by kernel_rfl)) (fun w' h => h.touch.below hB (by omega) hB.size) ?_ Zam
   intro w5 hs5
   have h75 : Rw g7 w5 (NY a2 n2 c2 gK).cells.toArray 68 := h7.set hs5 rfl
   have h65 := h6.apart hs5 (by omega)
   have hK5 := hK.same (hs5.other (by omega))
   replace hB : Bl w w5 := hs5.touch.below hB (by omega) hB.size
   clear h7 h6 hK
   have h7 := h75
   have h6 := h65
   have hK := hK5
   refine dt 8 1 (.slice aT nT cT) (fun v hv _ => by kernel_rfl) hB <| Zas (by kernel_rfl) ?_
   exact Zv0 [(1, .slice aT nT cT), (7, .pointer (some ⟨g7, 0, none⟩)), (6, .pointer (some ⟨g6, 0, none⟩)), (0, .pointer (some ⟨gW, 0, none⟩)), (2, .int .i64 ((dp : Nat) : Int))] (by exact ⟨fun _ => by kernel_rfl, ⟨fun _ => by kernel_rfl, ⟨fun _ => by kernel_rfl, ⟨fun _ => by kernel_rfl, ⟨fun _ => by kernel_rfl, trivial⟩⟩⟩⟩⟩) ⟨a2, n2, c2, aT, nT, cT, rfl, ⟨h6, h7, hK, ⟨_, (hlT.mono (fun b hb => ⟨hb.1, hb.2.1, hb.2.2.1⟩)).go hB⟩, (hs2.mono (fun b hb => ⟨hb.1, hb.2.1, hb.2.2.1⟩)).go hB, fun i hi => by rw [if_neg (by omega)]; exact ⟨Zet _ _⟩, (by rw [show wyJ kp pre k 0 = [] from rfl, List.append_nil]; exact (hW0.mono (Y := fun b => X b /\ b ≠ g6 /\ b ≠ g7 /\ b ≠ gK) (fun b hb hx => ⟨hx, by omega, by omega, by omega⟩)).go hB), Wg.of_below hB⟩, hs2, by have h1 := hlT.ll; have h2 := hl.ll; simp only [List.drop_succ_cons, List.drop_zero, List.length_cons] at h1 h2; omega⟩
 rintro _ v ⟨av, nv, cv, al, nl, cl, rfl, hI, hxw, hnl⟩
 refine Zab <| Zac <| Zar <| Zby (X := (Nat × Value × (Nat -> RV)) × Option Addr × Nat × Nat) (fun z => [(1, .slice z.2.1 z.2.2.1 z.2.2.2), (7, .pointer (some ⟨g7, 0, none⟩)), (6, .pointer (some ⟨g6, 0, none⟩)), (0, .pointer (some ⟨gW, 0, none⟩)), (2, .int .i64 ((dp : Nat) : Int))]) (fun z v => BQ w gW (.slice ap np cp) base vN X ns kp pre k av nv cv x g6 g7 gK z.1.1 z.1.2.1 z.1.2.2 z.2.1 z.2.2.1 z.2.2.2 v /\ z.1.1 <= 16 /\ z.2.2.1 <= n) (fun z => z.2.2.1) ((0, vN, fun _ => rz), al, nl, cl) (by exact ⟨fun _ => by kernel_rfl, ⟨fun _ => by kernel_rfl, ⟨fun _ => by kernel_rfl, ⟨fun _ => by kernel_rfl, ⟨fun _ => by kernel_rfl, trivial⟩⟩⟩⟩⟩) ⟨hI, Nat.zero_le _, hnl⟩ ?_
 clear hI hnl
 rintro ⟨⟨j, vM, ys⟩, al, nl, cl⟩ v ⟨hI, hj, hnl⟩
 simp only at hI hj hnl
 show CW _ _ _ _ _ _ _ [(1, .slice al nl cl), (7, .pointer (some ⟨g7, 0, none⟩)), (6, .pointer (some ⟨g6, 0, none⟩)), (0, .pointer (some ⟨gW, 0, none⟩)), (2, .int .i64 ((dp : Nat) : Int))] _
 by_cases h0 : 0 < nl
 ·skip
  obtain ⟨i, hji, hi16, hino, hskip, hrem⟩ := Zkh pre k (16 - j) j (by omega) (fun e => by obtain ⟨vs, h⟩ := hI.hl; have := h.ll; rw [e] at this; simp at this; omega)
  replace hI := BQ.to i (i - j) j (by omega) (by omega) hI hskip
  obtain ⟨vsl, hlv⟩ := hI.hl
  obtain ⟨_, hB1, hOi⟩ := (hO.1 i).resolve_left hino
  have hst := Zgy pre k hi16
  obtain ⟨m, hm⟩ : ∃ m, (grp pre k i).length = m := ⟨_, rfl⟩
  have hm0 : 0 < m := by rw [<- hm]; unfold grp entN; rw [List.length_map]; exact List.length_pos_iff.2 (Zhn _ hOi)
  have hln : m + (remK pre k (i + 1)).length = nl := by rw [<- hm, <- List.length_append, <- hst]; exact hlv.ll
  have hent : ∀ (q : Nat) (kq xq : List Int), (remK pre k i)[q]? = some (kq, xq) -> ∃ (iq : Nat) (pq : List Int), kq = pre ++ ((iq : Nat) : Int) :: pq /\ iq < 16 /\ (q < m -> iq = i) /\ (m <= q -> iq ≠ i) := by
   intro q kq xq hq
   rw [hst] at hq
   rcases Nat.lt_or_ge q m with h | h
   ·rw [List.getElem?_append_left (by omega)] at hq
    obtain ⟨p, hp⟩ := Zr0 (List.mem_of_getElem? hq)
    exact ⟨i, p, hp, hi16, fun _ => rfl, fun h2 => by omega⟩
   ·rw [List.getElem?_append_right (by omega)] at hq
    obtain ⟨i2, p, h1, h2, hp⟩ := Zmx (List.mem_of_getElem? hq)
    exact ⟨i2, p, hp, h2, fun h3 => by omega, fun _ => by omega⟩
  have hbnd : ∀ e ∈ remK pre k i, e.1.length <= 1000 := fun e he => hpl e (by rw [Zl6]; refine List.mem_append.2 (.inr ?_); obtain ⟨m2, h1, h2⟩ := List.mem_flatMap.1 he; exact List.mem_flatMap.2 ⟨m2, by rw [List.mem_range'_1] at h1 ⊢; omega, h2⟩)
  obtain ⟨gE, oE, a1, n1, c1, a2, n2, c2, k1, x1, ea, hej, hc1, hc2, hs1, hs2⟩ := hlv.at (j := 0) h0
  subst ea
  obtain ⟨i1, p1, rfl, _, hi1, _⟩ := hent 0 k1 x1 hej
  obtain rfl := hi1 hm0
  have hdb := hbnd _ (List.mem_of_getElem? hej)
  simp only [List.length_append, List.length_cons] at hdb
  have ls1 := hs1.len
  rw [List.length_append, List.length_cons] at ls1
  obtain ⟨gP, oP, eP, hcP⟩ := hs1.byteq (m := dp) (by omega)
  subst eP
  rw [hdp, Zqn, <- hdp] at hcP
  refine Zac <| Zac <| Zaa <| rp 26 (.slice (some ⟨gE, oE, none⟩) nl cl) <| rp 27 (.int .i64 nl) <| rv 28 (.bool true) (fun _ => Zag (v := .bool (decide ((nl : Int) > (0 : Int)))) (by kernel_rfl) (congrArg Value.bool (decide_eq_true (by omega)))) <| Zad <| Zab <| Zak (fun _ => by kernel_rfl) <| Zan <| Zab <| Zar ?_
  refine Zac <| Zaa <| rp 29 (.slice (some ⟨gE, oE, none⟩) nl cl) <| rv 30 (.pointer (some ⟨gE, oE + 0 * 2, none⟩)) (fun _ => Zau 55 _ _ gE oE 0 nl cl 2 95 rfl (by kernel_rfl) (by kernel_rfl) h0 Tryz.underlying55 (by kernel_rfl)) <| rp 31 (.pointer (some ⟨gE, oE + 0 * 2, none⟩)) <| rv 32 (.slice (some ⟨gP, oP, none⟩) n1 c1) (fun _ => Zah 23 _ _ _ _ rfl (by kernel_rfl) hc1 Tryz.underlying23 rfl) <| rp 33 (.int .i64 ((dp : Nat) : Int)) <| rv 34 (.pointer (some ⟨gP, oP + dp * 1, none⟩)) (fun _ => Zau 23 _ _ gP oP dp n1 c1 1 5 rfl (by kernel_rfl) (by kernel_rfl) (by omega) Tryz.underlying23 (by kernel_rfl)) <| rv 35 (.int .u8 ((i1 : Nat) : Int)) (fun _ => Zah 5 _ _ _ _ rfl (by kernel_rfl) hcP Tryz.underlying5 rfl) <| rp 8 (.int .u8 ((i1 : Nat) : Int)) <| Zad <| Zab ?_
  refine Zac <| Zaa <| rp 9 (.int .i64 1) <| Zad <| Zab <| Zac <| Zar <| Zby (X := Nat) (fun q => [(9, .int .i64 ((q : Nat) : Int)), (8, .int .u8 ((i1 : Nat) : Int)), (1, .slice (some ⟨gE, oE, none⟩) nl cl), (7, .pointer (some ⟨g7, 0, none⟩)), (6, .pointer (some ⟨g6, 0, none⟩)), (0, .pointer (some ⟨gW, 0, none⟩)), (2, .int .i64 ((dp : Nat) : Int))]) (fun q z => v = z /\ 1 <= q /\ q <= m) (fun q => m - q) 1 (by exact ⟨fun _ => by kernel_rfl, ⟨fun _ => by kernel_rfl, ⟨fun _ => by kernel_rfl, ⟨fun _ => by kernel_rfl, ⟨fun _ => by kernel_rfl, ⟨fun _ => by kernel_rfl, ⟨fun _ => by kernel_rfl, trivial⟩⟩⟩⟩⟩⟩⟩) ⟨rfl, Nat.le_refl _, hm0⟩ ?_
  rintro q _ ⟨rfl, hq1, hqm⟩
  show CW _ _ _ _ _ _ _ [(9, .int .i64 ((q : Nat) : Int)), (8, .int .u8 ((i1 : Nat) : Int)), (1, .slice (some ⟨gE, oE, none⟩) nl cl), (7, .pointer (some ⟨g7, 0, none⟩)), (6, .pointer (some ⟨g6, 0, none⟩)), (0, .pointer (some ⟨gW, 0, none⟩)), (2, .int .i64 ((dp : Nat) : Int))] _
  by_cases hqn : q < nl
  ·skip
   obtain ⟨gE2, oE2, aq, nq, cq, _, _, _, kq, xq, ea, hejq, hcq, _, hsq, _⟩ := hlv.at (j := q) hqn
   cases ea
   obtain ⟨iq, pq, rfl, hi2, hiq1, hiq2⟩ := hent q kq xq hejq
   have lsq := hsq.len
   rw [List.length_append, List.length_cons] at lsq
   obtain ⟨gQ, oQ, eQ, hcQ⟩ := hsq.byteq (m := dp) (by omega)
   subst eQ
   rw [hdp, Zqn, <- hdp] at hcQ
   by_cases hqm2 : q < m
   ·skip
    refine Zac <| Zac <| Zaa <| rp 36 (.int .i64 ((q : Nat) : Int)) <| rp 37 (.slice (some ⟨gE, oE, none⟩) nl cl) <| rp 38 (.int .i64 nl) <| rv 39 (.bool true) (fun _ => Zag (v := .bool (decide (((q : Nat) : Int) < (nl : Int)))) (by kernel_rfl) (congrArg Value.bool (decide_eq_true (by omega)))) <| rp 40 (.bool true) <| rp 41 (.slice (some ⟨gE, oE, none⟩) nl cl) <| rp 42 (.int .i64 ((q : Nat) : Int)) <| rv 43 (.pointer (some ⟨gE, oE + q * 2, none⟩)) (fun _ => Zau 55 _ _ gE oE q nl cl 2 95 rfl (by kernel_rfl) (by kernel_rfl) hqn Tryz.underlying55 (by kernel_rfl)) <| rp 44 (.pointer (some ⟨gE, oE + q * 2, none⟩)) ?_
    refine rv 45 (.slice (some ⟨gQ, oQ, none⟩) nq cq) (fun _ => Zah 23 _ _ _ _ rfl (by kernel_rfl) hcq Tryz.underlying23 rfl) <| rp 46 (.int .i64 ((dp : Nat) : Int)) <| rv 47 (.pointer (some ⟨gQ, oQ + dp * 1, none⟩)) (fun _ => Zau 23 _ _ gQ oQ dp nq cq 1 5 rfl (by kernel_rfl) (by kernel_rfl) (by omega) Tryz.underlying23 (by kernel_rfl)) <| rv 48 (.int .u8 ((iq : Nat) : Int)) (fun _ => Zah 5 _ _ _ _ rfl (by kernel_rfl) hcQ Tryz.underlying5 rfl) <| rp 49 (.int .u8 ((i1 : Nat) : Int)) <| rv 50 (.bool true) (fun _ => Zag (v := .bool (((iq : Nat) : Int) == ((i1 : Nat) : Int))) (by kernel_rfl) (congrArg Value.bool (beq_iff_eq.2 (by rw [hiq1 hqm2])))) <| rp 51 (.bool true) <| Zad <| Zab <| Zak (fun _ => by kernel_rfl) <| Zan <| Zab ?_
    refine Zar <| Zaa <| rp 52 (.int .i64 ((q : Nat) : Int)) <| rv 53 (.int .i64 ((q + 1 : Nat) : Int)) (fun _ => Zag (v := .int .i64 (IntKind.i64.wrap (((q : Nat) : Int) + 1))) (by kernel_rfl) (congrArg (Value.int .i64) (by rw [Zbc (by omega) (by omega)]; rfl))) <| rp 9 (.int .i64 ((q + 1 : Nat) : Int)) <| Zad <| Za0 ?_
    exact Za8 (E := fun q => [(9, .int .i64 ((q : Nat) : Int)), (8, .int .u8 ((i1 : Nat) : Int)), (1, .slice (some ⟨gE, oE, none⟩) nl cl), (7, .pointer (some ⟨g7, 0, none⟩)), (6, .pointer (some ⟨g6, 0, none⟩)), (0, .pointer (some ⟨gW, 0, none⟩)), (2, .int .i64 ((dp : Nat) : Int))]) (R := fun q z => v = z /\ 1 <= q /\ q <= m) (μ := fun q => m - q) (x := q) (q + 1) (by exact ⟨fun _ => by kernel_rfl, ⟨fun _ => by kernel_rfl, ⟨fun _ => by kernel_rfl, ⟨fun _ => by kernel_rfl, ⟨fun _ => by kernel_rfl, ⟨fun _ => by kernel_rfl, ⟨fun _ => by kernel_rfl, trivial⟩⟩⟩⟩⟩⟩⟩) ⟨rfl, by omega, by omega⟩ (by show m - (q + 1) < m - q; omega)
   ·skip
    obtain rfl : m = q := by omega
    refine Zac <| Zac <| Zaa <| rp 36 (.int .i64 ((m : Nat) : Int)) <| rp 37 (.slice (some ⟨gE, oE, none⟩) nl cl) <| rp 38 (.int .i64 nl) <| rv 39 (.bool true) (fun _ => Zag (v := .bool (decide (((m : Nat) : Int) < (nl : Int)))) (by kernel_rfl) (congrArg Value.bool (decide_eq_true (by omega)))) <| rp 40 (.bool true) <| rp 41 (.slice (some ⟨gE, oE, none⟩) nl cl) <| rp 42 (.int .i64 ((m : Nat) : Int)) <| rv 43 (.pointer (some ⟨gE, oE + m * 2, none⟩)) (fun _ => Zau 55 _ _ gE oE m nl cl 2 95 rfl (by kernel_rfl) (by kernel_rfl) hqn Tryz.underlying55 (by kernel_rfl)) <| rp 44 (.pointer (some ⟨gE, oE + m * 2, none⟩)) ?_
    refine rv 45 (.slice (some ⟨gQ, oQ, none⟩) nq cq) (fun _ => Zah 23 _ _ _ _ rfl (by kernel_rfl) hcq Tryz.underlying23 rfl) <| rp 46 (.int .i64 ((dp : Nat) : Int)) <| rv 47 (.pointer (some ⟨gQ, oQ + dp * 1, none⟩)) (fun _ => Zau 23 _ _ gQ oQ dp nq cq 1 5 rfl (by kernel_rfl) (by kernel_rfl) (by omega) Tryz.underlying23 (by kernel_rfl)) <| rv 48 (.int .u8 ((iq : Nat) : Int)) (fun _ => Zah 5 _ _ _ _ rfl (by kernel_rfl) hcQ Tryz.underlying5 rfl) <| rp 49 (.int .u8 ((i1 : Nat) : Int)) <| rv 50 (.bool false) (fun _ => Zag (v := .bool (((iq : Nat) : Int) == ((i1 : Nat) : Int))) (by kernel_rfl) (congrArg Value.bool (beq_eq_false_iff_ne.2 (by have := hiq2 (Nat.le_refl _); omega)))) <| rp 51 (.bool false) <| Zad <| Zab <| Zai (fun _ => by kernel_rfl) <| Zbl <| Zal ?_
    refine Zal <| Zay <| Zab <| Zac ?_
    obtain ⟨aH, nH, cH, hrH, hlH⟩ := hlv.cutToE m (by omega)
    obtain ⟨aT, nT, cT, hrT, hlT⟩ := hlv.cutFromE m (by omega)
    rw [hst, List.take_left' hm] at hlH
    rw [hst, List.drop_left' hm] at hlT
    have lH := hlH.ll
    have lT := hlT.ll
    have h7 := hI.h7
    refine Zaz (fun v => Rw g7 v (NY av nv cv gK).cells.toArray 68) (by kernel_rfl) (h7.drew) ?_
    replace h7 := h7.drew
    refine dt 0 54 (.pointer (some ⟨g7, 37, none⟩)) (fun v hv _ => by kernel_rfl) h7 <| dt 1 55 (.slice (some ⟨gK, 0, none⟩) 16 16) (fun v hv _ => Zah 66 _ ⟨g7, 37, none⟩ _ _ rfl (by kernel_rfl) (by rw [cell_of_row _ _ _ _ _ _ hv]; exact Zv3 (z := NY av nv cv gK) rfl) Tryz.underlying66 rfl) h7 <| dt 2 56 (.int .u8 ((i1 : Nat) : Int)) (fun v hv _ => by kernel_rfl) h7 <| dt 3 57 (.pointer (some ⟨gW, 0, none⟩)) (fun v hv _ => by kernel_rfl) h7 <| dt 4 58 (.slice (some ⟨gE, oE, none⟩) nl cl) (fun v hv _ => by kernel_rfl) h7 <| dt 5 59 (.int .i64 ((m : Nat) : Int)) (fun v hv _ => by kernel_rfl) h7 <| dt 6 60 (.slice aH nH cH) (fun v hv _ => hrH _ _ _ _ _ rfl (by kernel_rfl) (by kernel_rfl)) h7 <| dt 7 61 (.int .i64 ((dp : Nat) : Int)) (fun v hv _ => by kernel_rfl) h7 <| dt 8 62 (.int .i64 ((dp + 1 : Nat) : Int)) (fun v hv _ => Zag (v := .int .i64 (IntKind.i64.wrap (((dp : Nat) : Int) + 1))) (by kernel_rfl) (congrArg (Value.int .i64) (by rw [Zbc (by omega) (by omega)]; rfl))) h7 <| Zaf [9] (by kernel_rfl) (by simp) ?_
    have hRi : RFQ kp (pre ++ [((i1 : Nat) : Int)]) (k i1) := (hR i1 hi16).resolve_left hino
    have hMi : ((ns ++ wyJ kp pre k i1) ++ wyN kp (k i1) (pre ++ [((i1 : Nat) : Int)])).length + 1 <= 8800000000000 := by
     have h1 := Zit kp pre k (i1 + 1) (15 - i1)
     rw [show i1 + 1 + (15 - i1) = 16 from by omega, Zep, show wyK kp pre k i1 = wyN kp (k i1) (pre ++ [((i1 : Nat) : Int)]) ++ wy1 kp (pre ++ [((i1 : Nat) : Int)]) (k i1) from by unfold wyK; rw [if_neg (fun h => hino (isNo_iff.1 h))]] at h1
     simp only [List.length_append] at h1 hM ⊢
     omega
    refine Zat 9 63 82 #[.pointer (some ⟨gW, 0, none⟩), .slice aH nH cH, .int .i64 ((dp + 1 : Nat) : Int)] rfl (fun _ => by kernel_rfl) (fun _ => by kernel_rfl) (R := RRp (v.drew) gW (.slice ap np cp) base vM (fun b => X b /\ b ≠ g6 /\ b ≠ g7 /\ b ≠ gK) (ns ++ wyJ kp pre k i1) kp (pre ++ [((i1 : Nat) : Int)]) (k i1)) (hRi hI.hW.drew hlH.drew ((hkp.wg hI.hG).drew) (fun b hb => ⟨hX b (Nat.le_trans hI.hG.size hb), by have hq : b ≥ v.heap.size := hb; have := hI.hK.lt; have := lt_of_get hI.h7; omega, by have hq : b ≥ v.heap.size := hb; have := lt_of_get hI.h7; omega, by have hq : b ≥ v.heap.size := hb; have := hI.hK.lt; omega⟩) hMi (by omega) hnp (by rw [List.length_append, hdp]; rfl) (fun e he => hbnd e (by rw [hst]; exact List.mem_append.2 (.inl he)))) (fun u w' h => by obtain ⟨_, _, _, _, _, hg⟩ := h; exact h7.wgp hg hI.hW.drew (by decide) (by decide)) ?_ Zam
    rintro _ u1 ⟨y, vP, rfl, hRf, hW1, hG1⟩
    have hyl := hRf.at'.len
    obtain ⟨hKu, h7u, hI2⟩ := hI.step hi16 hino hord.1 hord.2.1 hord.2.2 hRf hW1 (show Wg v u1 gW vM vP from ⟨hG1.os, hG1.tape, hG1.output, hG1.size, hG1.block, hG1.own⟩) ⟨_, hlT⟩
    refine dt 10 64 (.pointer (some ⟨gK, 0 + i1 * 34, none⟩)) (fun v hv _ => Zcj (kd := .u8) (i := ((i1 : Nat) : Int)) 66 _ _ gK 0 i1 16 16 34 65 rfl (by kernel_rfl) (by kernel_rfl) rfl hi16 Tryz.underlying66 Zbx) h7u <| Zaf [11] (by kernel_rfl) (by simp) ?_
    refine ar_s 11 rfl (fun _ => by kernel_rfl) (fun _ => Zg6 _ _ hKu hi16 hyl rfl (by kernel_rfl) (by kernel_rfl)) hI2.h7 ?_ Zam
    generalize u1.setCells gK (0 + i1 * 34) y.cells = wS at hI2 ⊢
    refine Zas (by kernel_rfl) <| Zab <| Zaa <| rp 65 (.slice (some ⟨gE, oE, none⟩) nl cl) <| rp 66 (.int .i64 ((m : Nat) : Int)) <| rv 67 (.slice aT nT cT) (fun _ => hrT _ _ _ _ _ rfl (by kernel_rfl) (by kernel_rfl)) <| rp 1 (.slice aT nT cT) <| Zad <| Za0 ?_
    exact Za8 (E := fun z => [(1, .slice z.2.1 z.2.2.1 z.2.2.2), (7, .pointer (some ⟨g7, 0, none⟩)), (6, .pointer (some ⟨g6, 0, none⟩)), (0, .pointer (some ⟨gW, 0, none⟩)), (2, .int .i64 ((dp : Nat) : Int))]) (R := fun z v => BQ w gW (.slice ap np cp) base vN X ns kp pre k av nv cv x g6 g7 gK z.1.1 z.1.2.1 z.1.2.2 z.2.1 z.2.2.1 z.2.2.2 v /\ z.1.1 <= 16 /\ z.2.2.1 <= n) (μ := fun z => z.2.2.1) (x := ((j, vM, ys), some ⟨gE, oE, none⟩, nl, cl)) ((i1 + 1, vP, updR ys i1 y), aT, nT, cT) (by exact ⟨fun _ => by kernel_rfl, ⟨fun _ => by kernel_rfl, ⟨fun _ => by kernel_rfl, ⟨fun _ => by kernel_rfl, ⟨fun _ => by kernel_rfl, trivial⟩⟩⟩⟩⟩) ⟨hI2, by simp only; omega, by simp only; omega⟩ (by simp only; omega)
  obtain rfl : m = q := by omega
  refine Zac <| Zac <| Zaa <| rp 36 (.int .i64 ((m : Nat) : Int)) <| rp 37 (.slice (some ⟨gE, oE, none⟩) nl cl) <| rp 38 (.int .i64 nl) <| rv 39 (.bool false) (fun _ => Zag (v := .bool (decide (((m : Nat) : Int) < (nl : Int)))) (by kernel_rfl) (congrArg Value.bool (decide_eq_false (by omega)))) <| rp 40 (.bool false) <| Zbb 41 (fun _ => by kernel_rfl) <| Zbb 42 (fun _ => by kernel_rfl) <| Zbb 43 (fun _ => by kernel_rfl) <| Zbb 44 (fun _ => by kernel_rfl) ?_
  refine Zbb 45 (fun _ => by kernel_rfl) <| Zbb 46 (fun _ => by kernel_rfl) <| Zbb 47 (fun _ => by kernel_rfl) <| Zbb 48 (fun _ => by kernel_rfl) <| Zbb 49 (fun _ => by kernel_rfl) <| Zbb 50 (fun _ => by kernel_rfl) <| rp 51 (.bool false) <| Zad <| Zab <| Zai (fun _ => by kernel_rfl) <| Zbl <| Zal ?_
  refine Zal <| Zay <| Zab <| Zac ?_
  obtain ⟨aH, nH, cH, hrH, hlH⟩ := hlv.cutToE m (by omega)
  obtain ⟨aT, nT, cT, hrT, hlT⟩ := hlv.cutFromE m (by omega)
  rw [hst, List.take_left' hm] at hlH
  rw [hst, List.drop_left' hm] at hlT
  have lH := hlH.ll
  have lT := hlT.ll
  have h7 := hI.h7
  refine Zaz (fun v => Rw g7 v (NY av nv cv gK).cells.toArray 68) (by kernel_rfl) (h7.drew) ?_
  replace h7 := h7.drew
  refine dt 0 54 (.pointer (some ⟨g7, 37, none⟩)) (fun v hv _ => by kernel_rfl) h7 <| dt 1 55 (.slice (some ⟨gK, 0, none⟩) 16 16) (fun v hv _ => Zah 66 _ ⟨g7, 37, none⟩ _ _ rfl (by kernel_rfl) (by rw [cell_of_row _ _ _ _ _ _ hv]; exact Zv3 (z := NY av nv cv gK) rfl) Tryz.underlying66 rfl) h7 <| dt 2 56 (.int .u8 ((i1 : Nat) : Int)) (fun v hv _ => by kernel_rfl) h7 <| dt 3 57 (.pointer (some ⟨gW, 0, none⟩)) (fun v hv _ => by kernel_rfl) h7 <| dt 4 58 (.slice (some ⟨gE, oE, none⟩) nl cl) (fun v hv _ => by kernel_rfl) h7 <| dt 5 59 (.int .i64 ((m : Nat) : Int)) (fun v hv _ => by kernel_rfl) h7 <| dt 6 60 (.slice aH nH cH) (fun v hv _ => hrH _ _ _ _ _ rfl (by kernel_rfl) (by kernel_rfl)) h7 <| dt 7 61 (.int .i64 ((dp : Nat) : Int)) (fun v hv _ => by kernel_rfl) h7 <| dt 8 62 (.int .i64 ((dp + 1 : Nat) : Int)) (fun v hv _ => Zag (v := .int .i64 (IntKind.i64.wrap (((dp : Nat) : Int) + 1))) (by kernel_rfl) (congrArg (Value.int .i64) (by rw [Zbc (by omega) (by omega)]; rfl))) h7 <| Zaf [9] (by kernel_rfl) (by simp) ?_
  have hRi : RFQ kp (pre ++ [((i1 : Nat) : Int)]) (k i1) := (hR i1 hi16).resolve_left hino
  have hMi : ((ns ++ wyJ kp pre k i1) ++ wyN kp (k i1) (pre ++ [((i1 : Nat) : Int)])).length + 1 <= 8800000000000 := by
   have h1 := Zit kp pre k (i1 + 1) (15 - i1)
   rw [show i1 + 1 + (15 - i1) = 16 from by omega, Zep, show wyK kp pre k i1 = wyN kp (k i1) (pre ++ [((i1 : Nat) : Int)]) ++ wy1 kp (pre ++ [((i1 : Nat) : Int)]) (k i1) from by unfold wyK; rw [if_neg (fun h => hino (isNo_iff.1 h))]] at h1
   simp only [List.length_append] at h1 hM ⊢
   omega
  refine Zat 9 63 82 #[.pointer (some ⟨gW, 0, none⟩), .slice aH nH cH, .int .i64 ((dp + 1 : Nat) : Int)] rfl (fun _ => by kernel_rfl) (fun _ => by kernel_rfl) (R := RRp (v.drew) gW (.slice ap np cp) base vM (fun b => X b /\ b ≠ g6 /\ b ≠ g7 /\ b ≠ gK) (ns ++ wyJ kp pre k i1) kp (pre ++ [((i1 : Nat) : Int)]) (k i1)) (hRi hI.hW.drew hlH.drew ((hkp.wg hI.hG).drew) (fun b hb => ⟨hX b (Nat.le_trans hI.hG.size hb), by have hq : b ≥ v.heap.size := hb; have := hI.hK.lt; have := lt_of_get hI.h7; omega, by have hq : b ≥ v.heap.size := hb; have := lt_of_get hI.h7; omega, by have hq : b ≥ v.heap.size := hb; have := hI.hK.lt; omega⟩) hMi (by omega) hnp (by rw [List.length_append, hdp]; rfl) (fun e he => hbnd e (by rw [hst]; exact List.mem_append.2 (.inl he)))) (fun u w' h => by obtain ⟨_, _, _, _, _, hg⟩ := h; exact h7.wgp hg hI.hW.drew (by decide) (by decide)) ?_ Zam
  rintro _ u1 ⟨y, vP, rfl, hRf, hW1, hG1⟩
  have hyl := hRf.at'.len
  obtain ⟨hKu, h7u, hI2⟩ := hI.step hi16 hino hord.1 hord.2.1 hord.2.2 hRf hW1 (show Wg v u1 gW vM vP from ⟨hG1.os, hG1.tape, hG1.output, hG1.size, hG1.block, hG1.own⟩) ⟨_, hlT⟩
  refine dt 10 64 (.pointer (some ⟨gK, 0 + i1 * 34, none⟩)) (fun v hv _ => Zcj (kd := .u8) (i := ((i1 : Nat) : Int)) 66 _ _ gK 0 i1 16 16 34 65 rfl (by kernel_rfl) (by kernel_rfl) rfl hi16 Tryz.underlying66 Zbx) h7u <| Zaf [11] (by kernel_rfl) (by simp) ?_
  refine ar_s 11 rfl (fun _ => by kernel_rfl) (fun _ => Zg6 _ _ hKu hi16 hyl rfl (by kernel_rfl) (by kernel_rfl)) hI2.h7 ?_ Zam
  generalize u1.setCells gK (0 + i1 * 34) y.cells = wS at hI2 ⊢
  refine Zas (by kernel_rfl) <| Zab <| Zaa <| rp 65 (.slice (some ⟨gE, oE, none⟩) nl cl) <| rp 66 (.int .i64 ((m : Nat) : Int)) <| rv 67 (.slice aT nT cT) (fun _ => hrT _ _ _ _ _ rfl (by kernel_rfl) (by kernel_rfl)) <| rp 1 (.slice aT nT cT) <| Zad <| Za0 ?_
  exact Za8 (E := fun z => [(1, .slice z.2.1 z.2.2.1 z.2.2.2), (7, .pointer (some ⟨g7, 0, none⟩)), (6, .pointer (some ⟨g6, 0, none⟩)), (0, .pointer (some ⟨gW, 0, none⟩)), (2, .int .i64 ((dp : Nat) : Int))]) (R := fun z v => BQ w gW (.slice ap np cp) base vN X ns kp pre k av nv cv x g6 g7 gK z.1.1 z.1.2.1 z.1.2.2 z.2.1 z.2.2.1 z.2.2.2 v /\ z.1.1 <= 16 /\ z.2.2.1 <= n) (μ := fun z => z.2.2.1) (x := ((j, vM, ys), some ⟨gE, oE, none⟩, nl, cl)) ((i1 + 1, vP, updR ys i1 y), aT, nT, cT) (by exact ⟨fun _ => by kernel_rfl, ⟨fun _ => by kernel_rfl, ⟨fun _ => by kernel_rfl, ⟨fun _ => by kernel_rfl, ⟨fun _ => by kernel_rfl, trivial⟩⟩⟩⟩⟩) ⟨hI2, by simp only; omega, by simp only; omega⟩ (by simp only; omega)
 obtain rfl : nl = 0 := by omega
 have hnil : remK pre k j = [] := by obtain ⟨vs, h⟩ := hI.hl; exact List.eq_nil_of_length_eq_zero h.ll
 replace hI := BQ.to 16 (16 - j) j (by omega) (Nat.le_refl _) hI (fun m h1 _ => Ztt hO.1 hnil h1)
 show CW _ _ _ _ _ _ _ [(1, .slice al 0 cl), (7, .pointer (some ⟨g7, 0, none⟩)), (6, .pointer (some ⟨g6, 0, none⟩)), (0, .pointer (some ⟨gW, 0, none⟩)), (2, .int .i64 ((dp : Nat) : Int))] _
 refine Zac <| Zac <| Zaa <| rp 26 (.slice al 0 cl) <| rp 27 (.int .i64 0) <| rp 28 (.bool false) <| Zad <| Zab <| Zai (fun _ => by kernel_rfl) <| Zbl <| Zal <| Zal ?_
 refine Zay <| Zab <| Zac <| Zaa <| rv 68 (.agg (NY av nv cv gK).cells.toArray) (fun _ => Zb8 68 _ _ _ _ _ _ rfl (by kernel_rfl) hI.h7 Tryz.underlying68 rfl (by rw [Zc1, Zbn (y := NY av nv cv gK) rfl])) <| Zbm g6 (NY av nv cv gK).cells.toArray (fun _ => by kernel_rfl) (fun _ => Za3 68 _ _ _ _ _ _ rfl (by kernel_rfl) (by kernel_rfl) hI.h6 (by rw [Zc1, Zbn (y := NY av nv cv gK) rfl]) (by rw [Zbn (y := NY av nv cv gK) rfl]; rfl) (Zew _)) ?_
 intro wE hpE
 have hrE : Rw g6 wE (NY av nv cv gK).cells.toArray 68 := hpE.row hI.h6
 have hxE : Sk Q wE av nv cv x := (hxw.wg hI.hG).keep (fun b hb hl => ⟨hpE.other (by have := hb.2.2.1; omega), hQ1 b hb.2.2.2⟩)
 have hKE := hI.hK.same (hpE.other (by omega))
 have hRE : ∀ i, i < 16 -> Rf (KW gW vM (fun b => gK < b)) wE (ys i) (rP k i) := fun i hi => by have q := hI.hr i hi; rw [if_pos hi] at q; exact q.put hpE (fun b hb => by have := hb.2.2; omega)
 have hWE := (hI.hW.put hI.h6 (by decide) (by decide) (fun b hb => hb.2.1) hpE).mono (Y := X) (fun b _ hb => hb.1)
 have hGE := hI.hG.put hpE (by omega)
 have lxE := hxE.len
 refine Zad <| Zab <| Zap ?_
 exact Zae (.agg (NY av nv cv gK).cells.toArray) (fun _ => Zci Tryz.results83 _ g6 (NY av nv cv gK) rfl (by kernel_rfl) hrE) ⟨_, rfl, NY av nv cv gK, vM, rfl, ⟨rfl, ⟨.inl ⟨rfl, rfl⟩, fun _ => ⟨rfl, rfl⟩, rfl, fun x hx => by cases hx⟩ |> fun h => ⟨h, Nat.zero_le _, fun _ _ e => by cases e⟩, ⟨hxE.ag, by show nv <= _; omega, fun g o e h => hxE.k _ e h⟩, Zet _ _, ⟨(by simp [nodeP]), Nat.le_refl _, (by show 16 <= maxLen; unfold maxLen; omega), (by show 16 <= _; omega), fun e => by cases e⟩, Zz8 hKE hRE (fun b hb => hQ2 b (by have := hb.2.2; omega)) (hQ2 gK (by omega))⟩, hWE, hGE⟩
end Go.Proofs.YtefhepcplempkaaGreat
namespace Go.Proofs.YtefhepcplempkaaGreat
open Tr
open Ni (unpP packP rightP)
def Vb : Tr -> Prop
 | no => True
 | leaf p v => isB p /\ isB v /\ v.length <= 256
 | ext p c => isB p /\ Vb c
 | br k v => (isB v /\ v.length <= 256) /\ ∀ i, i < 16 -> Vb (k i)
theorem TA.vb {K : Nat -> Prop} {w : World} : ∀ {t : Tr} {v : Value}, TA K w t v -> Vb t := by
 intro t
 induction t with
 | no => intro v h; trivial
 | leaf p x => rintro v ⟨a, n, c, a', n', c', h1, h2, h3, h4⟩; exact ⟨h2.ag.b, h3.ag.b, by rw [h3.ag.l]; exact h4⟩
 | ext p t ih => rintro v ⟨a, n, c, u, h1, h2, h3⟩; exact ⟨h2.ag.b, ih h3⟩
 | br k x ih => rintro v ⟨vs, a, n, c, h1, h2, h3, h4⟩; exact ⟨⟨h3.ag.b, by rw [h3.ag.l]; exact h4⟩, fun i hi => ih i (h2 i hi)⟩
structure Wn (n : PN) : Prop where
 ok : okN n
 r : NR n = true
 y : byt (itemP n)
def Kys (p : List Int) (t : Tr) : Prop := Nb p /\ ∀ q, Nb q -> Tr.get t q ≠ [] -> ∃ k, Byk k /\ k.length <= 32 /\ p ++ q = Ni.nib k
end Go.Proofs.YtefhepcplempkaaGreat
namespace Go.Proofs.YtefhepcplempkaaGreat
open Go.RowKit
open Tr
def NDQ (kp pre : List Int) (t : Tr) : Prop := ∀ {v : World} {gW base : Nat} {vM : Value} {Y Z : Nat -> Prop} {ns : List (List Int)} {a ap : Option Addr} {n c np cp dp : Nat} {vs : List (Value × Value)}, Wp v gW (.slice ap np cp) base vM Y ns -> PAt (KW gW vM Z) v a n c vs (entN pre t) -> Sk (KW gW vM Z) v ap np cp kp -> (∀ b, v.heap.size <= b -> Y b) -> (ns ++ wyN kp t pre).length + 1 <= 8800000000000 -> n <= 5000000000000 -> np <= 1000 -> dp = pre.length -> (∀ e ∈ entN pre t, e.1.length <= 1000) -> Calls Tryz.prog 56 #[.pointer (some ⟨gW, 0, none⟩), .slice a n c, .int .i64 ((dp : Nat) : Int)] v fun e w' => ∃ u, e = .returned u /\ RNp v gW (.slice ap np cp) base vM Y ns kp pre t u w'
def ENQ (kp pre : List Int) (t : Tr) : Prop := ∀ {v : World} {gW base : Nat} {vM : Value} {Y Z : Nat -> Prop} {ns : List (List Int)} {a ap : Option Addr} {n c np cp dp : Nat} {vs : List (Value × Value)}, Wp v gW (.slice ap np cp) base vM Y ns -> PAt (KW gW vM Z) v a n c vs (entN pre t) -> Sk (KW gW vM Z) v ap np cp kp -> (∀ b, v.heap.size <= b -> Y b) -> (ns ++ wyN kp t pre).length + 1 <= 8800000000000 -> n <= 5000000000000 -> np <= 1000 -> dp = pre.length -> (∀ e ∈ entN pre t, e.1.length <= 1000) -> Calls Tryz.prog 29 #[.pointer (some ⟨gW, 0, none⟩), .slice a n c, .int .i64 ((dp : Nat) : Int)] v fun e w' => ∃ u, e = .returned u /\ REp v gW (.slice ap np cp) base vM Y ns kp pre t u w'
theorem Zr7 {kp pre : List Int} {t : Tr} (hne : t ≠ no) (h : NDQ kp pre t) : ENQ kp pre t := fun h1 h2 h3 h4 h5 h6 h7 h8 h9 => Zxk hne (h h1 h2 h3 h4 h5 h6 h7 h8 h9)
theorem Zvv {kp pre : List Int} {t : Tr} {B : Nat} (hO : Tr.Ok B t) (h : ENQ kp pre t) : RFQ kp pre t := fun {v gW base vM Y Z ns a ap n c np cp dp vs} h1 h2 h3 h4 h5 h6 h7 h8 h9 => by
 have hn0 : 0 < n := by rw [<- h2.ll, Zde]; exact List.length_pos_iff.2 (Zhn _ hO)
 by_cases hsh : (encT t).length < 32
 ·exact Zkp h1 h2 h3 h7 h9 hn0 h8 h4 (fun w hb Y' hw hy => h hw (h2.go hb) (h3.go hb) hy h5 h6 h7 h8 h9) h5 hsh
 ·by_cases hon : kp.take pre.length = pre
  ·exact Zqk h1 h2 h3 h7 h9 hn0 h8 h4 (fun w hb Y' hw hy => h hw (h2.go hb) (h3.go hb) hy h5 h6 h7 h8 h9) h5 hsh hon
  ·exact Zoj h1 h2 h3 h7 h9 hn0 h8 h4 (fun w hb Y' hw hy => h hw (h2.go hb) (h3.go hb) hy h5 h6 h7 h8 h9) h5 hsh hon
theorem Zxy (kp : List Int) : ∀ (t : Tr) {B : Nat}, Tr.Ok B t -> Vb t -> ∀ pre, NDQ kp pre t := by
 intro t
 induction t with
 | no => intro B h; exact h.elim
 | leaf q x =>
  intro B hO hV pre v gW base vM Y Z ns a ap n c np cp dp vs h1 h2 h3 h4 h5 h6 h7 h8 h9
  exact Zok h1 h2 h9 h8 (by have := hV.2.2; omega)
 | ext q c ih =>
  intro B hO hV pre v gW base vM Y Z ns a ap n c' np cp dp vs h1 h2 h3 h4 h5 h6 h7 h8 h9
  obtain ⟨o1, o2, o3, o4, o5⟩ := hO
  cases c with
  | no => cases o4
  | leaf _ _ => cases o4
  | ext _ _ => cases o4
  | br k x =>
   have hn2 : 2 <= n := by rw [<- h2.ll, Ze8, Zde]; exact Zv4 o5
   refine Zqm h1 h2 h9 h8 o5 o2 hn2 h6 h4 (fun w hb Y' hw hy => ?_)
   rw [Ze8] at h2 h9
   refine Zvv o5 (Zr7 (by simp) (ih o5 hV.2 (pre ++ q))) hw (h2.go hb) (h3.go hb) hy ?_ h6 h7 (by rw [List.length_append]) h9
   simp only [wyN, List.length_append] at h5 ⊢
   omega
 | br k x ih =>
  intro B hO hV pre v gW base vM Y Z ns a ap n c np cp dp vs h1 h2 h3 h4 h5 h6 h7 h8 h9
  have hn2 : 2 <= n := by rw [<- h2.ll, Zde]; exact Zv4 hO
  refine Zt2 h1 h2 h9 h8 hO hn2 h6 h4 (fun w hb Y' hw hy Q hQ1 hQ2 => ?_)
  have hl : PAt (KW gW vM (fun b => b < v.heap.size)) v a n c vs (entN pre (br k x)) := h2.old.mono (fun b hb => ⟨hb.1.1, hb.1.2.1, hb.2⟩)
  have hk : Sk (KW gW vM (fun b => b < v.heap.size)) v ap np cp kp := ⟨h3.ag, fun y hy hn => ⟨(h3.k y hy hn).1, (h3.k y hy hn).2.1, h3.old hy hn⟩⟩
  refine Zxl hw (hl.go hb) (hk.go hb) h7 h9 hO hn2 h6 (by have := hV.1.2; omega) h8 hy hQ1 hQ2 (fun i hi => ?_) h5
  rcases hO.1 i with q | ⟨q1, q2, q3⟩
  ·exact .inl q
  ·exact .inr (Zvv q3 (Zr7 q3.ne (ih i q3 (hV.2 i hi) _)))
theorem Zyg {kp : List Int} {t : Tr} {B : Nat} (hO : Tr.Ok B t) (hV : Vb t) (pre : List Int) : ENQ kp pre t := Zr7 hO.ne (Zxy kp t hO hV pre)
end Go.Proofs.YtefhepcplempkaaGreat
namespace Go.Proofs.YtefhepcplempkaaGreat
open Go.RowKit
open Tr
open Di (dref)
def Ge (K : Nat -> Prop) (w : World) (u : Value) (b : List Int) : Prop := ∃ a n c, u = .slice a n c /\ Sk K w a n c b
def OwnS (w : World) (base : Nat) (v : Value) (M : List (List Int)) : Prop := ∃ us : List Value, us.length = M.length /\ w.ownsRow base 23 1 v M.length us /\ ∀ (j : Nat) (u : Value) (b : List Int), us[j]? = some u -> M[j]? = some b -> Ge (fun g => v.ownBlock ≠ some g) w u b
theorem OwnS.none (w : World) (base : Nat) : OwnS w base (.slice none 0 0) [] := ⟨[], rfl, World.ownsRow_nil w base _ 1, fun j u b q => by simp at q⟩
theorem OwnS.own {w : World} {base : Nat} {v : Value} {M : List (List Int)} (h : OwnS w base v M) : ∀ k, v.ownBlock = some k -> base <= k /\ k < w.heap.size := by
 obtain ⟨us, h1, ⟨h2, h3⟩, h4⟩ := h
 intro k hk
 rcases h3 with ⟨rfl, _⟩ | ⟨g, cap, cur, rfl, hbg, hg, _⟩
 ·simp [Value.ownBlock] at hk
 ·simp only [Value.ownBlock, Option.some.injEq] at hk
  subst hk
  exact ⟨hbg, lt_of_get hg⟩
theorem OwnS.far {w w' : World} {base : Nat} {v : Value} {M : List (List Int)} (h : OwnS w base v M) (hb : Below w.heap.size w w') : OwnS w' base v M := by
 obtain ⟨us, h1, ⟨h2, h3⟩, h4⟩ := h
 refine ⟨us, h1, ⟨h2, ?_⟩, fun j u b q1 q2 => ?_⟩
 ·rcases h3 with q | ⟨g, cap, cur, e1, e2, e3, e4⟩
  ·exact .inl q
  ·exact .inr ⟨g, cap, cur, e1, e2, (hb.block g (lt_of_get e3)).trans e3, e4⟩
 ·obtain ⟨a, n, c, e1, e2⟩ := h4 j u b q1 q2
  exact ⟨a, n, c, e1, e2.go hb⟩
theorem OwnS.bt {w : World} {base : Nat} {v : Value} {M : List (List Int)} (h : OwnS w base v M) : ∃ a c, v = .slice a M.length c /\ Bt (fun _ => True) w a M.length M /\ M.length <= c := by
 obtain ⟨us, h1, ⟨h2, h3⟩, h4⟩ := h
 rcases h3 with ⟨rfl, h5⟩ | ⟨g, cap, cur, rfl, hbg, hg, hc1, hc2, hc3, hc4⟩
 ·exact ⟨Option.none, 0, by rw [h5], ⟨rfl, fun j hj => by omega⟩, by omega⟩
 ·refine ⟨_, cap, rfl, ⟨rfl, fun j hj => ?_⟩, hc1⟩
  obtain ⟨u, hu⟩ : ∃ u, us[j]? = some u := ⟨_, List.getElem?_eq_getElem (by omega)⟩
  obtain ⟨a, n, c, e1, e2⟩ := h4 j u M[j] hu (List.getElem?_eq_getElem hj)
  refine ⟨g, 0, a, n, c, rfl, ?_, ?_⟩
  ·rw [cell_of_row _ _ _ _ _ _ hg, Nat.zero_add, Nat.mul_one, <- e1]
   rw [<- hc4, List.getElem?_take_of_lt (by omega)] at hu
   rw [<- Array.getElem?_toList]
   exact hu
  ·rw [show M.getD j [] = M[j] from by simp [List.getD, hj]]
   exact e2.mono (fun _ _ => trivial)
theorem Bt.vals {K : Nat -> Prop} {w : World} {ad : Addr} {m : Nat} {M : List (List Int)} (h : Bt K w (some ad) m M) : ∃ us : List Value, us.length = m /\ ∀ j u, us[j]? = some u -> w.cell? (ad.add j) = some u /\ ∃ b, M[j]? = some b /\ Ge K w u b := by
 refine ⟨(List.range m).map (fun j => (w.cell? (ad.add j)).getD (.slice none 0 0)), by simp, fun j u hj => ?_⟩
 simp only [List.getElem?_map] at hj
 have hjm : j < m := by
  rcases Nat.lt_or_ge j m with q | q
  ·exact q
  ·rw [List.getElem?_eq_none (by simpa using q)] at hj; simp at hj
 rw [List.getElem?_range hjm] at hj
 simp only [Option.map_some, Option.some.injEq] at hj
 obtain ⟨g, off, a', n', c', h1, h2, h3⟩ := h.row j hjm
 cases h1
 rw [Za1] at hj ⊢
 rw [Nat.mul_one] at h2
 rw [h2] at hj ⊢
 simp only [Option.getD_some] at hj
 have hl := h.len
 refine ⟨by rw [hj], M[j], List.getElem?_eq_getElem (by omega), a', n', c', hj.symm, ?_⟩
 rw [show M.getD j [] = M[j]'(by omega) from by simp [List.getD, show j < M.length by omega]] at h3
 exact h3
theorem appT {w : World} {base : Nat} {v : Value} {M : List (List Int)} (hown : OwnS w base v M) {K : Nat -> Prop} {ad : Addr} {m c : Nat} {M' : List (List Int)} (h : Bt K w (some ad) m M') (hK : ∀ b, K b -> v.ownBlock ≠ some b) (hlen : M.length + m <= 5864062014800) (hbase : base <= w.heap.size) :
  ∃ v' w', (∀ ty, (Builtin.append_ #[28, 28] ty #[v, .slice (some ad) m c]).run Tryz.prog w = .ok v' w') /\ OwnS w' base v' (M ++ M') /\ Below base w w' := by
 obtain ⟨i, hi, hz, hsz, hby⟩ := Zul
 have hOw := hown.own
 obtain ⟨us, h1, h2, h4⟩ := id hown
 obtain ⟨us', e1, e2⟩ := h.vals
 have hl := h.len
 obtain ⟨v', w', r1, r2, r3, _, r5⟩ := run_append_own_at (P := Tryz.prog) w base 28 0 23 i _ 1 24 Tryz.underlying28 hi hz hsz hby rfl (by decide) v M.length us h2 ad m c us' (by omega) (fun j u hj => (e2 j u hj).1) (fun u hu => by
  obtain ⟨j, hj, e⟩ := List.getElem_of_mem hu
  obtain ⟨_, b, _, a', n', c', rfl, _⟩ := e2 j u (by rw [List.getElem?_eq_getElem hj, e])
  rfl) (by unfold maxLen; omega) (by omega) hbase
 have hkeep : ∀ {K' : Nat -> Prop} {u : Value} {b : List Int}, (∀ b, K' b -> v.ownBlock ≠ some b) -> Ge K' w u b -> Ge (fun g => v'.ownBlock ≠ some g) w' u b := by
  rintro K' u b hK' ⟨a, n, c, q1, hs⟩
  refine ⟨a, n, c, q1, ⟨⟨?_, hs.ag.nil, hs.ag.l, hs.ag.b⟩, fun x hx hn => ?_⟩⟩
  ·rcases hs.ag.i with q | ⟨gb, off, q1, q2, q3, q4, q5, q7⟩
   ·exact .inl q
   ·refine .inr ⟨gb, off, q1, q2, q3, q4, q5, fun j hj => ?_⟩
    rw [<- q7 j hj]
    exact World.cell?_of_block (r3.block gb (block_lt_of_cell (q7 j hj)) (fun e => hK' _ (hs.k _ q1 q3) e.symm))
  ·rcases r5 with q | q
   ·rw [q]; exact hK' _ (hs.k x hx hn)
   ·rw [q]; intro e; have := hs.old hx hn; simp at e; omega
 refine ⟨v', w', fun ty => r1, ⟨us ++ us', by simp [h1, e1, hl], ?_, fun j u b q1 q2 => ?_⟩, (Below.refl _ _).grown r3 hbase (fun k hk => (hOw k hk).1)⟩
 ·rw [List.length_append, hl]; exact r2
 ·by_cases hj : j < us.length
  ·rw [List.getElem?_append_left hj] at q1
   rw [List.getElem?_append_left (by omega)] at q2
   exact hkeep (fun b hb => hb) (h4 j u b q1 q2)
  ·rw [List.getElem?_append_right (by omega)] at q1
   rw [List.getElem?_append_right (by omega), <- h1] at q2
   obtain ⟨_, b', e3, e4⟩ := e2 _ u q1
   rw [q2] at e3
   cases e3
   exact hkeep hK e4
theorem Bt.one {K : Nat -> Prop} {w w' : World} {g : Nat} {T : TypeId} {a : Option Addr} {n c : Nat} {b : List Int} (h : New w w' g #[.slice a n c] T) (hs : Sk K w a n c b) : Bt K w' (some ⟨g, 0, none⟩) 1 [b] := ⟨rfl, fun j hj => ⟨g, 0, a, n, c, rfl, by
 rw [show j = 0 by omega, cell_of_row _ _ _ _ _ _ (show Rw g w' #[.slice a n c] T from h.row)]; rfl, by rw [show j = 0 by omega]; exact hs.go h.below⟩⟩
end Go.Proofs.YtefhepcplempkaaGreat

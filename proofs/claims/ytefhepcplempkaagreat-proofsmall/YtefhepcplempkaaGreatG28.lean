/- What the document reckons of the paths below a node: how many nibbles all begin with, what lies under a nibble; what a tree in normal form has to do with it. -/
import Derived.Test.YtefhepcplempkaaGreatG18
import Derived.Test.YtefhepcplempkaaGreatG27
import Derived.Test.YtefhepcplempkaaGreatG00
set_option linter.unusedVariables false
set_option maxRecDepth 100000
namespace Go.Proofs.YtefhepcplempkaaGreat
open Tr
def onesP (l : PList) : PList := l.map fun e => (Ni.nib e.1, e.2)
def alikeP : PList -> Nat
 | [] => 0
 | e :: r => r.foldl (fun n f => min n (Ni.com e.1 f.1)) e.1.length
def under1 (i : Int) (e : List Int × List Int) : PList := match e.1 with
 | [] => []
 | c :: p => if c = i then [(p, e.2)] else []
def underP (i : Int) (l : PList) : PList := l.flatMap (under1 i)
def withoutP (n : Nat) (l : PList) : PList := l.map fun e => (e.1.drop n, e.2)
def valP (v : List Int) (l : PList) : List Int := l.foldl (fun v e => if e.1 = [] then e.2 else v) v
theorem Rel.ones {t : Tr} {l : PList} (h : Rel t l) : onesP l = entsR t := by
 have he := h.ents
 rcases h.ok with rfl | hO
 ·rw [show entsF [] no = [] from rfl] at he
  subst he
  rfl
 ·rw [<- he, Znq]
  unfold onesP
  rw [List.map_map]
  have : (entsR t).map ((fun e : List Int × List Int => (Ni.nib e.1, e.2)) ∘ fun e => ((Ni.keyP ([] ++ e.1)).1, e.2)) = (entsR t).map id := by
   refine List.map_congr_left ?_
   rintro ⟨p, x⟩ hm
   obtain ⟨h1, h2, h3⟩ := (Zgi t hO p x).1 hm
   obtain ⟨k, k1, k2, k3⟩ := h.e p h1 (by rw [h2]; exact h3)
   show (Ni.nib (Ni.keyP ([] ++ p)).1, x) = (p, x)
   rw [List.nil_append, k3, Ni.key_nib k1]
  rw [this, List.map_id]
theorem Zhn : ∀ (t : Tr) {B : Nat}, Tr.Ok B t -> entsR t ≠ [] := by
 intro t
 induction t with
 | no => intro B h; exact h.elim
 | leaf p x => intro B h; simp [entsR]
 | ext p c ih => intro B h; simp only [entsR, ne_eq, List.map_eq_nil_iff]; exact ih h.2.2.2.2
 | br k x ih =>
  intro B h
  obtain ⟨h1, h2⟩ := h
  have key : ∀ i, k i ≠ no -> entsR (br k x) ≠ [] := by
   intro i hi
   rcases h1 i with e | ⟨e1, e2, e3⟩
   ·exact absurd e hi
   ·have := ih i e3
    intro he
    obtain ⟨y, hy⟩ := List.exists_mem_of_ne_nil _ this
    have hm : (((i : Nat) : Int) :: y.1, y.2) ∈ entsR (br k x) := by
     simp only [entsR, List.mem_append, List.mem_flatMap, List.mem_range, List.mem_map]
     exact .inr ⟨i, e1, y, hy, rfl⟩
    rw [he] at hm
    cases hm
  rcases h2 with ⟨i, j, _, hi, _⟩ | ⟨_, i, hi⟩
  ·exact key i hi
  ·exact key i hi
theorem Zji {k : Nat -> Tr} {x : List Int} {B i : Nat} (h : Tr.Ok B (br k x)) (hi : k i ≠ no) : ∃ p v, (((i : Nat) : Int) :: p, v) ∈ entsR (br k x) := by
 rcases h.1 i with e | ⟨e1, e2, e3⟩
 ·exact absurd e hi
 ·obtain ⟨y, hy⟩ := List.exists_mem_of_ne_nil _ (Zhn _ e3)
  refine ⟨y.1, y.2, ?_⟩
  simp only [entsR, List.mem_append, List.mem_flatMap, List.mem_range, List.mem_map]
  exact .inr ⟨i, e1, y, hy, rfl⟩
theorem Zrg {α : Type} {l : List α} {a b : α} (ha : a ∈ l) (hb : b ∈ l) (h : a ≠ b) : 2 <= l.length := by
 match l with
 | [] => cases ha
 | [c] =>
  have h1 : a = c := by simpa using ha
  have h2 : b = c := by simpa using hb
  exact absurd (h1.trans h2.symm) h
 | _ :: _ :: _ => simp
theorem Zv4 {k : Nat -> Tr} {x : List Int} {B : Nat} (h : Tr.Ok B (br k x)) : 2 <= (entsR (br k x)).length := by
 rcases h.2 with ⟨i, j, hij, hi, hj⟩ | ⟨hx, i, hi⟩
 ·obtain ⟨p, v, hm⟩ := Zji h hi
  obtain ⟨q, u, hn⟩ := Zji h hj
  exact Zrg hm hn (by intro e; injection e with e _; injection e with e _; omega)
 ·obtain ⟨p, v, hm⟩ := Zji h hi
  have hn : (([], x) : List Int × List Int) ∈ entsR (br k x) := by simp only [entsR]; rw [if_neg hx]; simp
  exact Zrg hm hn (by intro e; injection e with e _; cases e)
theorem Zsf (p a b : List Int) : Ni.com (p ++ a) (p ++ b) = p.length + Ni.com a b := by
 induction p with
 | nil => simp
 | cons c p ih => simp only [List.cons_append, Ni.com, if_pos, ih, List.length_cons]; omega
theorem Zno {α : Type} (X : List α) (i : Nat) : ∀ n : Nat, (List.range n).flatMap (fun j => if j = i then X else []) = if i < n then X else []
 | 0 => by simp
 | n + 1 => by
  rw [List.range_succ, List.flatMap_append, Zno X i n, List.flatMap_singleton]
  by_cases h1 : i < n
  ·rw [if_pos h1, if_neg (by omega), if_pos (by omega), List.append_nil]
  ·rw [if_neg h1, List.nil_append]
   by_cases h2 : n = i
   ·rw [if_pos h2, if_pos (by omega)]
   ·rw [if_neg h2, if_neg (by omega)]
end Go.Proofs.YtefhepcplempkaaGreat
namespace Go.Proofs.YtefhepcplempkaaGreat
open Go.RowKit
open Tr
def entN (pre : List Int) (t : Tr) : PList := (entsR t).map fun e => (pre ++ e.1, e.2)
def wy1 (kp pre : List Int) (c : Tr) : List (List Int) := if 32 <= (encT c).length /\ kp.take pre.length = pre then [encT c] else []
def wyN (kp : List Int) : Tr -> List Int -> List (List Int)
 | no, _ => []
 | leaf _ _, _ => []
 | ext q c, pre => wyN kp c (pre ++ q) ++ wy1 kp (pre ++ q) c
 | br k _, pre => (List.range 16).flatMap fun i => if (k i).isNo then [] else wyN kp (k i) (pre ++ [((i : Nat) : Int)]) ++ wy1 kp (pre ++ [((i : Nat) : Int)]) (k i)
theorem Zme (r : List Int) : ∀ pre kp : List Int, pre.length <= Ni.com kp (pre ++ r) ↔ kp.take pre.length = pre
 | [], kp => by simp
 | x :: pre, [] => by simp [Ni.com]
 | x :: pre, y :: kp => by
  simp only [List.cons_append, Ni.com, List.length_cons, List.take_succ_cons, List.cons.injEq]
  by_cases h : y = x
  ·rw [if_pos h]
   have := Zme r pre kp
   constructor
   ·intro h2; exact ⟨h, this.1 (by omega)⟩
   ·intro h2; have := this.2 h2.2; omega
  ·rw [if_neg h]
   constructor
   ·intro h2; omega
   ·intro h2; exact absurd h2.1 h
theorem Ze8 (pre q : List Int) (c : Tr) : entN pre (ext q c) = entN (pre ++ q) c := by
 simp [entN, entsR, List.append_assoc]
theorem Gp2.keep {K L : Nat -> Prop} {w w' : World} {p : Value × Value} {e : List Int × List Int} (h : Gp2 K w p e) (hk : Keep K L w w') : Gp2 L w' p e := by
 obtain ⟨a, n, c, a', n', c', h1, h2, h3, h4⟩ := h
 exact ⟨a, n, c, a', n', c', h1, h2, h3.keep hk, h4.keep hk⟩
theorem PAt.keep {K L : Nat -> Prop} {w w' : World} {a : Option Addr} {n c : Nat} {vs : List (Value × Value)} {l : PList} (h : PAt K w a n c vs l) (hk : Keep K L w w') : PAt L w' a n c vs l := by
 refine ⟨h.vl, h.ll, h.nc, h.nil, fun j u hj => ?_, fun j p e h1 h2 => (h.gd j p e h1 h2).keep hk, fun x hx hn => ?_⟩
 ·obtain ⟨g, off, e1, e2⟩ := h.row j u hj
  have hn : 0 < n := by
   rcases Nat.eq_zero_or_pos n with q | q
   ·have : vs = [] := List.eq_nil_of_length_eq_zero (by rw [h.vl]; exact q)
    subst this; simp [flatP] at hj
   ·exact q
  exact ⟨g, off, e1, (World.cell?_of_block (hk g (h.rk _ e1 hn) (block_lt_of_cell e2)).1).trans e2⟩
 ·have hn' := hn
  obtain ⟨g, off, _, _, _, _, _, _, _, _, e1, _, e2, _⟩ := h.at hn
  rw [e1] at hx; cases hx
  exact (hk g (h.rk _ e1 hn) (block_lt_of_cell e2)).2
theorem PAt.wg {Z : Nat -> Prop} {w w' : World} {gW : Nat} {vN vN' : Value} {a : Option Addr} {n c : Nat} {vs : List (Value × Value)} {l : PList} (h : PAt (KW gW vN Z) w a n c vs l) (g : Wg w w' gW vN vN') : PAt (KW gW vN' Z) w' a n c vs l := h.keep g.keep
def RNp (w : World) (gW : Nat) (PV : Value) (base : Nat) (vN : Value) (X : Nat -> Prop) (ns : List (List Int)) (kp pre : List Int) (t : Tr) : Value -> World -> Prop := fun u w' => ∃ (y : NV) (vN' : Value), u = .agg y.cells.toArray /\ NodeAt (fun _ => True) w' y (nodeP t) /\ Wp w' gW PV base vN' X (ns ++ wyN kp t pre) /\ Wg w w' gW vN vN'
def REp (w : World) (gW : Nat) (PV : Value) (base : Nat) (vN : Value) (X : Nat -> Prop) (ns : List (List Int)) (kp pre : List Int) (t : Tr) : Value -> World -> Prop := fun u w' => ∃ (a : Option Addr) (n c : Nat) (vN' : Value), u = .slice a n c /\ Sk (KW gW vN' (fun b => w.heap.size <= b)) w' a n c (encT t) /\ Wp w' gW PV base vN' X (ns ++ wyN kp t pre) /\ Wg w w' gW vN vN' /\ (encT t).length <= 65540
def RRp (w : World) (gW : Nat) (PV : Value) (base : Nat) (vN : Value) (X : Nat -> Prop) (ns : List (List Int)) (kp pre : List Int) (t : Tr) : Value -> World -> Prop := fun u w' => ∃ (y : RV) (vN' : Value), u = .agg y.cells.toArray /\ Rf (KW gW vN' (fun b => w.heap.size < b)) w' y (referP (encT t)) /\ Wp w' gW PV base vN' X (ns ++ (wyN kp t pre ++ wy1 kp pre t)) /\ Wg w w' gW vN vN'
set_option maxHeartbeats 4000000 in
theorem Zxk {w : World} {gW base : Nat} {PV vN : Value} {X : Nat -> Prop} {ns : List (List Int)} {kp pre : List Int} {t : Tr} {a : Option Addr} {n c dp : Nat} (hne : t ≠ no) (hm : Calls Tryz.prog 56 #[.pointer (some ⟨gW, 0, none⟩), .slice a n c, .int .i64 ((dp : Nat) : Int)] w fun e w' => ∃ u, e = .returned u /\ RNp w gW PV base vN X ns kp pre t u w') :
  Calls Tryz.prog 29 #[.pointer (some ⟨gW, 0, none⟩), .slice a n c, .int .i64 ((dp : Nat) : Int)] w fun e w' => ∃ u, e = .returned u /\ REp w gW PV base vN X ns kp pre t u w' := by
 have hB := Bl.refl w
 refine Zaj Tryz.func29 rfl 18 rfl ?_
 show CW _ _ _ _ _ _ _ [(0, .pointer (some ⟨gW, 0, none⟩)), (1, .slice a n c), (2, .int .i64 ((dp : Nat) : Int))] _
 refine Zac <| Zaa <| rp 6 (.slice none 0 0) <| Zad <| Zab <| Zac <| Zaa <| rp 10 (.pointer (some ⟨gW, 0, none⟩)) <| rp 11 (.slice a n c) <| rp 12 (.int .i64 ((dp : Nat) : Int)) <| Zao 13 56 #[.pointer (some ⟨gW, 0, none⟩), .slice a n c, .int .i64 ((dp : Nat) : Int)] (fun _ => by kernel_rfl) (fun _ => by kernel_rfl) (R := RNp w gW PV base vN X ns kp pre t) (hm) ?_
 rintro _ u1 ⟨y, vM, rfl, hN, hW1, hG⟩
 refine Zao 14 55 #[.agg y.cells.toArray] (fun _ => by kernel_rfl) (fun _ => by kernel_rfl) (R := fun u w' => ∃ a m c, u = .tuple #[.slice a m c, .int .i64 ((NEP (nodeP t)).2 : Nat)] /\ Sk (fun b => u1.heap.size <= b) w' a m c (NEP (nodeP t)).1 /\ Bl u1 w') ((Zhb (fun _ => True) y (nodeP t) u1 hN).mono (fun e w' h => by obtain ⟨⟨a, m, c, e1, h1, h2⟩, h3⟩ := h; exact ⟨_, e1, a, m, c, rfl, ⟨h1, fun q hq hn => by rcases h1.i with ⟨q1, q2⟩ | ⟨gb, off, q1, _⟩; omega; rw [hq] at q1; cases q1; exact (h2 gb off hq hn).1⟩, h3⟩)) ?_
 rintro _ u2 ⟨a2, n2, c2, rfl, hs2, hb2⟩
 refine rp 9 (.tuple #[.slice a2 n2 c2, .int .i64 ((NEP (nodeP t)).2 : Nat)]) <| rp 15 (.slice a2 n2 c2) <| rp 16 (.int .i64 ((NEP (nodeP t)).2 : Nat)) <| rp 7 (.slice a2 n2 c2) <| rp 8 (.int .i64 ((NEP (nodeP t)).2 : Nat)) <| Zad <| Zab <| Zac <| Zaa <| rp 17 (.slice a2 n2 c2) <| rp 6 (.slice a2 n2 c2) <| Zad ?_
 refine Zab <| Zap ?_
 exact Zae (.slice a2 n2 c2) (fun _ => by kernel_rfl) ⟨_, rfl, a2, n2, c2, vM, rfl, (by rw [Ze9 hne]; exact hs2.freshp (K := fun _ => True) hW1 hG.size), hW1.go hb2, hG.trans (Wg.of_below hb2), (by rw [Ze9 hne]; exact Zq3 hN.okN)⟩
set_option maxHeartbeats 4000000 in
theorem Zkp {w : World} {gW base : Nat} {vN : Value} {X Z : Nat -> Prop} {ns : List (List Int)} {kp pre : List Int} {t : Tr} {a ap : Option Addr} {n c dp np cp : Nat} {vs : List (Value × Value)} (hW : Wp w gW (.slice ap np cp) base vN X ns) (hl : PAt (KW gW vN Z) w a n c vs (entN pre t)) (hkp : Sk (KW gW vN Z) w ap np cp kp) (hnp : np <= 1000) (hpl : ∀ e ∈ entN pre t, e.1.length <= 1000) (hn0 : 0 < n) (hdp : dp = pre.length) (hX : ∀ b, w.heap.size <= b -> X b) (hE : ∀ v, Bl w v -> ∀ Y : Nat -> Prop, Wp v gW (.slice ap np cp) base vN Y ns -> (∀ b, v.heap.size <= b -> Y b) -> Calls Tryz.prog 29 #[.pointer (some ⟨gW, 0, none⟩), .slice a n c, .int .i64 ((dp : Nat) : Int)] v fun e w' => ∃ u, e = .returned u /\ REp v gW (.slice ap np cp) base vN Y ns kp pre t u w') (hM : (ns ++ wyN kp t pre).length + 1 <= 8800000000000) (hsh : (encT t).length < 32) :
  Calls Tryz.prog 82 #[.pointer (some ⟨gW, 0, none⟩), .slice a n c, .int .i64 ((dp : Nat) : Int)] w fun e w' => ∃ u, e = .returned u /\ RRp w gW (.slice ap np cp) base vN X ns kp pre t u w' := by
 have hB := Bl.refl w
 have hW0 := hW
 have hl0 := hl
 obtain ⟨gE, oE, a1, n1, c1, a2, n2, c2, k1, x1, ea, hej, hc1, hc2, hs1, hs2e⟩ := hl.at (j := 0) hn0
 subst ea
 have hk1 : ∃ r, k1 = pre ++ r := by
  unfold entN at hej
  rw [List.getElem?_map] at hej
  obtain ⟨e, _, e2⟩ := Option.map_eq_some_iff.1 hej
  cases e2
  exact ⟨_, rfl⟩
 obtain ⟨r1, rfl⟩ := hk1
 have ls1 := hs1.len
 have lkp := hkp.len
 have hb1 : (pre ++ r1).length <= 1000 := hpl _ (List.mem_of_getElem? hej)
 refine Zaj Tryz.func82 rfl 42 rfl ?_
 show CW _ _ _ _ _ _ _ [(0, .pointer (some ⟨gW, 0, none⟩)), (1, .slice (some ⟨gE, oE, none⟩) n c), (2, .int .i64 ((dp : Nat) : Int))] _
 refine Zac <| Zaa <| Zax 6 rz.cells.toArray 65 (fun _ => by kernel_rfl) (fun _ => by kernel_rfl) ?_
 intro w1 gR hnR
 replace hB := hB.go hnR.below
 replace hW := hW.go hnR.below
 have hrR : Rw gR w1 rz.cells.toArray 65 := hnR.row
 have hgR := hnR.hg
 have hsR := hnR.size
 have hWX : Wp w1 gW (.slice ap np cp) base vN (fun b => X b /\ b ≠ gR) ns := (hW0.mono (Y := fun b => X b /\ b ≠ gR) (fun b hb hx => ⟨hx, by omega⟩)).go hnR.below
 refine Zad <| Zab <| Zac <| Zaa <| rp 9 (.pointer (some ⟨gW, 0, none⟩)) <| rp 10 (.slice (some ⟨gE, oE, none⟩) n c) <| rp 11 (.int .i64 ((dp : Nat) : Int)) <| Zao 12 29 #[.pointer (some ⟨gW, 0, none⟩), .slice (some ⟨gE, oE, none⟩) n c, .int .i64 ((dp : Nat) : Int)] (fun _ => by kernel_rfl) (fun _ => by kernel_rfl) (R := REp w1 gW (.slice ap np cp) base vN (fun b => X b /\ b ≠ gR) ns kp pre t) (hE w1 hB (fun b => X b /\ b ≠ gR) hWX (fun b hb => ⟨hX b (by omega), by omega⟩)) ?_
 rintro _ u1 ⟨a3, n3, c3, vM, rfl, hs3, hW1, hG, hen⟩
 replace hrR := hrR.wgp hG hW (by decide) (by decide)
 have hGt := (Wg.of_below hB).trans hG
 clear hW hB
 have hz1 := hG.size
 have ln3 := hs3.len
 refine rp 7 (.slice a3 n3 c3) <| Zad <| Zab <| Zac <| Zaa <| rp 13 (.slice a3 n3 c3) <| Zao 14 118 #[.slice a3 n3 c3] (fun _ => by kernel_rfl) (fun _ => by kernel_rfl) (R := fun u w' => ∃ y : RV, u = .agg y.cells.toArray /\ Rf (fun b => u1.heap.size <= b) w' y (referP (encT t)) /\ Bl u1 w') ((Zdp a3 n3 c3 (encT t) u1 hs3.ag (by omega)).mono (fun e w' h => by obtain ⟨⟨y, e1, h1⟩, h2⟩ := h; exact ⟨_, e1, y, rfl, ⟨h1.go (fun b hb _ => ⟨rfl, hb.1⟩)⟩, h2⟩)) ?_
 rintro _ u2 ⟨y, rfl, hRf, hb2⟩
 have hltW := hW1.lt
 replace hrR := hrR.go hb2
 replace hGt := hGt.go hb2
 replace hW1 := hW1.go hb2
 replace hs3 := hs3.go hb2
 replace hRf : Rf (KW gW vM (fun b => w.heap.size < b)) u2 y (referP (encT t)) := hRf.mono (fun b hb => ⟨fun e => by have := hltW.1; omega, fun e => by have := hltW.2 b e; omega, by omega⟩)
 have hyl := hRf.at'.len
 have hyk : y.k = 1 := by rw [hRf.at'.1, Zes, if_pos hsh]
 refine Zax 8 rz.cells.toArray 65 (fun _ => by kernel_rfl) (fun _ => by kernel_rfl) ?_
 intro wA g6 hnA
 refine Zbm g6 y.cells.toArray (fun _ => by kernel_rfl) (fun _ => Za3 65 _ _ _ _ _ _ rfl (by kernel_rfl) (by kernel_rfl) hnA.row (by rw [Zbx, Zbd hyl]) (by rw [Zbd hyl]; rfl) (Zcs y)) ?_
 intro wC hpC
 have hnC := hnA.put hpC
 replace hrR := hrR.go hnC.below
 replace hGt := hGt.go hnC.below
 replace hW1 := hW1.go hnC.below
 replace hs3 := hs3.go hnC.below
 replace hRf := hRf.go hnC.below
 have hr6 : Rw g6 wC y.cells.toArray 65 := hnC.row
 refine Zad <| Zab <| Zac <| Zac ?_
 have hV := Bl.refl wC
 have hr6c := hr6
 have hW1c := hW1
 refine Zaz (fun v => Bl wC v) (by kernel_rfl) (hV.drew) ?_
 replace hrR := hrR.drew
 replace hGt := hGt.drew
 replace hW1 := hW1.drew
 replace hs3 := hs3.drew
 replace hRf := hRf.drew
 replace hr6 := hr6.drew
 replace hV := hV.drew
 refine dt 0 15 (.pointer (some ⟨g6, 0, none⟩)) (fun v hv _ => by kernel_rfl) hV <| dt 1 16 (.int .i64 1) (fun v hv _ => Zah 3 _ ⟨g6, 0, none⟩ _ _ rfl (by kernel_rfl) (by rw [cell_of_row _ _ _ _ _ _ (hr6c.go hv), <- hyk]; rfl) Tryz.underlying3 rfl) hV <| dt 2 17 (.bool false) (fun v hv _ => by kernel_rfl) hV <| dt 3 18 (.bool false) (fun v hv _ => by kernel_rfl) hV <| df 4 19 hV <| df 5 20 hV <| df 6 21 hV <| df 7 22 hV <| df 8 23 hV <| df 9 24 hV <| df 10 25 hV <| df 11 26 hV ?_
 refine df 12 27 hV <| df 13 28 hV <| df 14 29 hV <| dt 15 30 (.bool false) (fun v hv _ => by kernel_rfl) hV <| Zas (by kernel_rfl) <| Zab <| Zai (fun _ => by kernel_rfl) <| Zan <| Zab <| Zac <| Zaa <| rv 41 (.agg y.cells.toArray) (fun _ => Zb8 65 _ _ _ _ _ _ rfl (by kernel_rfl) hr6 Tryz.underlying65 rfl (by rw [Zbx, Zbd hyl])) ?_
 refine Zbm gR y.cells.toArray (fun _ => by kernel_rfl) (fun _ => Za3 65 _ _ _ _ _ _ rfl (by kernel_rfl) (by kernel_rfl) hrR (by rw [Zbx, Zbd hyl]) (by rw [Zbd hyl]; rfl) (Zcs y)) ?_
 intro wE hpE
 have hrE : Rw gR wE y.cells.toArray 65 := hpE.row hrR
 have hRE := hRf.put hpE (fun b hb => by have := hb.2.2; omega)
 have hWE := (hW1.put hrR (by decide) (by decide) (fun b hb => hb.2) hpE).mono (fun b _ hb => hb.1)
 have hGE := hGt.put hpE (by omega)
 refine Zad <| Zab <| Zap ?_
 exact Zae (.agg y.cells.toArray) (fun _ => Zdo Tryz.results82 _ gR y hyl (by kernel_rfl) hrE) ⟨_, rfl, y, vM, rfl, hRE, (by rw [show wy1 kp pre t = [] from by unfold wy1; rw [if_neg (fun h => by omega)], List.append_nil]; exact hWE), hGE⟩
set_option maxHeartbeats 4000000 in
theorem Zqk {w : World} {gW base : Nat} {vN : Value} {X Z : Nat -> Prop} {ns : List (List Int)} {kp pre : List Int} {t : Tr} {a ap : Option Addr} {n c dp np cp : Nat} {vs : List (Value × Value)} (hW : Wp w gW (.slice ap np cp) base vN X ns) (hl : PAt (KW gW vN Z) w a n c vs (entN pre t)) (hkp : Sk (KW gW vN Z) w ap np cp kp) (hnp : np <= 1000) (hpl : ∀ e ∈ entN pre t, e.1.length <= 1000) (hn0 : 0 < n) (hdp : dp = pre.length) (hX : ∀ b, w.heap.size <= b -> X b) (hE : ∀ v, Bl w v -> ∀ Y : Nat -> Prop, Wp v gW (.slice ap np cp) base vN Y ns -> (∀ b, v.heap.size <= b -> Y b) -> Calls Tryz.prog 29 #[.pointer (some ⟨gW, 0, none⟩), .slice a n c, .int .i64 ((dp : Nat) : Int)] v fun e w' => ∃ u, e = .returned u /\ REp v gW (.slice ap np cp) base vN Y ns kp pre t u w') (hM : (ns ++ wyN kp t pre).length + 1 <= 8800000000000) (hsh : ¬ (encT t).length < 32) (hon : kp.take pre.length = pre) :
  Calls Tryz.prog 82 #[.pointer (some ⟨gW, 0, none⟩), .slice a n c, .int .i64 ((dp : Nat) : Int)] w fun e w' => ∃ u, e = .returned u /\ RRp w gW (.slice ap np cp) base vN X ns kp pre t u w' := by
 have hB := Bl.refl w
 have hW0 := hW
 have hl0 := hl
 obtain ⟨gE, oE, a1, n1, c1, a2, n2, c2, k1, x1, ea, hej, hc1, hc2, hs1, hs2e⟩ := hl.at (j := 0) hn0
 subst ea
 have hk1 : ∃ r, k1 = pre ++ r := by
  unfold entN at hej
  rw [List.getElem?_map] at hej
  obtain ⟨e, _, e2⟩ := Option.map_eq_some_iff.1 hej
  cases e2
  exact ⟨_, rfl⟩
 obtain ⟨r1, rfl⟩ := hk1
 have ls1 := hs1.len
 have lkp := hkp.len
 have hb1 : (pre ++ r1).length <= 1000 := hpl _ (List.mem_of_getElem? hej)
 refine Zaj Tryz.func82 rfl 42 rfl ?_
 show CW _ _ _ _ _ _ _ [(0, .pointer (some ⟨gW, 0, none⟩)), (1, .slice (some ⟨gE, oE, none⟩) n c), (2, .int .i64 ((dp : Nat) : Int))] _
 refine Zac <| Zaa <| Zax 6 rz.cells.toArray 65 (fun _ => by kernel_rfl) (fun _ => by kernel_rfl) ?_
 intro w1 gR hnR
 replace hB := hB.go hnR.below
 replace hW := hW.go hnR.below
 have hrR : Rw gR w1 rz.cells.toArray 65 := hnR.row
 have hgR := hnR.hg
 have hsR := hnR.size
 have hWX : Wp w1 gW (.slice ap np cp) base vN (fun b => X b /\ b ≠ gR) ns := (hW0.mono (Y := fun b => X b /\ b ≠ gR) (fun b hb hx => ⟨hx, by omega⟩)).go hnR.below
 refine Zad <| Zab <| Zac <| Zaa <| rp 9 (.pointer (some ⟨gW, 0, none⟩)) <| rp 10 (.slice (some ⟨gE, oE, none⟩) n c) <| rp 11 (.int .i64 ((dp : Nat) : Int)) <| Zao 12 29 #[.pointer (some ⟨gW, 0, none⟩), .slice (some ⟨gE, oE, none⟩) n c, .int .i64 ((dp : Nat) : Int)] (fun _ => by kernel_rfl) (fun _ => by kernel_rfl) (R := REp w1 gW (.slice ap np cp) base vN (fun b => X b /\ b ≠ gR) ns kp pre t) (hE w1 hB (fun b => X b /\ b ≠ gR) hWX (fun b hb => ⟨hX b (by omega), by omega⟩)) ?_
 rintro _ u1 ⟨a3, n3, c3, vM, rfl, hs3, hW1, hG, hen⟩
 replace hrR := hrR.wgp hG hW (by decide) (by decide)
 have hGt := (Wg.of_below hB).trans hG
 clear hW hB
 have hz1 := hG.size
 have ln3 := hs3.len
 refine rp 7 (.slice a3 n3 c3) <| Zad <| Zab <| Zac <| Zaa <| rp 13 (.slice a3 n3 c3) <| Zao 14 118 #[.slice a3 n3 c3] (fun _ => by kernel_rfl) (fun _ => by kernel_rfl) (R := fun u w' => ∃ y : RV, u = .agg y.cells.toArray /\ Rf (fun b => u1.heap.size <= b) w' y (referP (encT t)) /\ Bl u1 w') ((Zdp a3 n3 c3 (encT t) u1 hs3.ag (by omega)).mono (fun e w' h => by obtain ⟨⟨y, e1, h1⟩, h2⟩ := h; exact ⟨_, e1, y, rfl, ⟨h1.go (fun b hb _ => ⟨rfl, hb.1⟩)⟩, h2⟩)) ?_
 rintro _ u2 ⟨y, rfl, hRf, hb2⟩
 have hltW := hW1.lt
 replace hrR := hrR.go hb2
 replace hGt := hGt.go hb2
 replace hW1 := hW1.go hb2
 replace hs3 := hs3.go hb2
 replace hRf : Rf (KW gW vM (fun b => w.heap.size < b)) u2 y (referP (encT t)) := hRf.mono (fun b hb => ⟨fun e => by have := hltW.1; omega, fun e => by have := hltW.2 b e; omega, by omega⟩)
 have hyl := hRf.at'.len
 have hyk : y.k = 2 := by rw [hRf.at'.1, Zes, if_neg hsh]
 refine Zax 8 rz.cells.toArray 65 (fun _ => by kernel_rfl) (fun _ => by kernel_rfl) ?_
 intro wA g6 hnA
 refine Zbm g6 y.cells.toArray (fun _ => by kernel_rfl) (fun _ => Za3 65 _ _ _ _ _ _ rfl (by kernel_rfl) (by kernel_rfl) hnA.row (by rw [Zbx, Zbd hyl]) (by rw [Zbd hyl]; rfl) (Zcs y)) ?_
 intro wC hpC
 have hnC := hnA.put hpC
 replace hrR := hrR.go hnC.below
 replace hGt := hGt.go hnC.below
 replace hW1 := hW1.go hnC.below
 replace hs3 := hs3.go hnC.below
 replace hRf := hRf.go hnC.below
 have hr6 : Rw g6 wC y.cells.toArray 65 := hnC.row
 refine Zad <| Zab <| Zac <| Zac ?_
 have hV := Bl.refl wC
 have hr6c := hr6
 have hW1c := hW1
 have hlw := hl0.wg hGt
 have hkw := hkp.wg hGt
 obtain ⟨gE2, oE2, a5, n5, c5, _, _, _, k5, _, ea5, hej5, hc5, _, hs5, _⟩ := hlw.at (j := 0) hn0
 cases ea5
 rw [hej] at hej5
 cases hej5
 have ls5 := hs5.len
 refine Zaz (fun v => Bl wC v) (by kernel_rfl) (hV.drew) ?_
 replace hrR := hrR.drew
 replace hGt := hGt.drew
 replace hW1 := hW1.drew
 replace hs3 := hs3.drew
 replace hRf := hRf.drew
 replace hr6 := hr6.drew
 replace hV := hV.drew
 refine dt 0 15 (.pointer (some ⟨g6, 0, none⟩)) (fun v hv _ => by kernel_rfl) hV <| dt 1 16 (.int .i64 2) (fun v hv _ => Zah 3 _ ⟨g6, 0, none⟩ _ _ rfl (by kernel_rfl) (by rw [cell_of_row _ _ _ _ _ _ (hr6c.go hv), <- hyk]; rfl) Tryz.underlying3 rfl) hV <| dt 2 17 (.bool true) (fun v hv _ => by kernel_rfl) hV <| dt 3 18 (.bool true) (fun v hv _ => by kernel_rfl) hV <| dt 4 19 (.pointer (some ⟨gW, 0, none⟩)) (fun v hv _ => by kernel_rfl) hV <| dt 5 20 (.pointer (some ⟨gW, 0, none⟩)) (fun v hv => (fun _ => by kernel_rfl)) hV <| dt 6 21 (.pointer (some ⟨gW, 0, none⟩)) (fun v hv _ => by kernel_rfl) hV <| dt 7 22 (.slice ap np cp) (fun v hv _ => Zah 23 _ ⟨gW, 0, none⟩ _ _ rfl (by kernel_rfl) (by rw [cell_of_row _ _ _ _ _ _ (hW1c.r.go hv)]; rfl) Tryz.underlying23 rfl) hV <| dt 8 23 (.slice (some ⟨gE, oE, none⟩) n c) (fun v hv _ => by kernel_rfl) hV <| dt 9 24 (.pointer (some ⟨gE, oE + 0 * 2, none⟩)) (fun v hv _ => Zau 55 _ _ gE oE 0 n c 2 95 rfl (by kernel_rfl) (by kernel_rfl) hn0 Tryz.underlying55 (by kernel_rfl)) hV <| dt 10 25 (.pointer (some ⟨gE, oE + 0 * 2, none⟩)) (fun v hv _ => by kernel_rfl) hV <| dt 11 26 (.slice a5 n5 c5) (fun v hv _ => Zah 23 _ _ _ _ rfl (by kernel_rfl) ((Below.cell hv (block_lt_of_cell hc5)).trans hc5) Tryz.underlying23 rfl) hV ?_
 refine dt 13 28 (.int .i64 ((dp : Nat) : Int)) (fun v hv _ => by kernel_rfl) hV <| Zaf [12] (by kernel_rfl) (by simp) ?_
 refine Zat 12 27 81 #[.slice ap np cp, .slice a5 n5 c5] rfl (fun _ => by kernel_rfl) (fun _ => by kernel_rfl) (R := fun u w' => u = .int .i64 (Ni.com kp (pre ++ r1) : Nat) /\ Bl (wC.drew) w') (((Ni.common_any _ _ _ _ _ _ kp (pre ++ r1) _ (hkw.go hV).ag (hs5.go hV).ag (by omega) (by omega)).mono (fun e w' h => ⟨_, h.1, rfl, h.2⟩))) (fun u w' h => hV.go h.2) ?_ Zam
 rintro _ u5 ⟨rfl, hb5⟩
 replace hrR := hrR.go hb5
 replace hGt := hGt.go hb5
 replace hW1 := hW1.go hb5
 replace hs3 := hs3.go hb5
 replace hRf := hRf.go hb5
 replace hr6 := hr6.go hb5
 replace hV := hV.go hb5
 refine dt 14 29 (.bool true) (fun v hv => (fun _ => Zag (v := .bool (decide (((Ni.com kp (pre ++ r1) : Nat) : Int) ≥ ((dp : Nat) : Int)))) (by kernel_rfl) (congrArg Value.bool (decide_eq_true (by have := (Zme r1 pre kp).2 hon; omega))))) hV <| dt 15 30 (.bool true) (fun v hv _ => by kernel_rfl) hV <| Zas (by kernel_rfl) <| Zab <| Zak (fun _ => by kernel_rfl) <| Zaa <| rp 31 (.pointer (some ⟨gW, 0, none⟩)) <| rp 32 (.pointer (some ⟨gW, 0, none⟩)) <| rp 33 (.pointer (some ⟨gW, 0, none⟩)) <| rp 34 (.pointer (some ⟨gW, 1, none⟩)) <| rv 35 (vM) (fun _ => Zah 28 _ ⟨gW, 1, none⟩ _ _ rfl (by kernel_rfl) (by rw [cell_of_row _ _ _ _ _ _ hW1.r]; rfl) Tryz.underlying28 rfl) <| rp 36 (.slice a3 n3 c3) ?_
 refine Zbi 37 #[.slice a3 n3 c3] 23 1 (fun _ => by kernel_rfl) (fun _ => by kernel_rfl) ?_
 intro wL gL hnL
 replace hrR := hrR.go hnL.below
 replace hGt := hGt.go hnL.below
 replace hW1 := hW1.go hnL.below
 replace hs3 := hs3.go hnL.below
 replace hRf := hRf.go hnL.below
 replace hr6 := hr6.go hnL.below
 replace hV := hV.go hnL.below
 have hLr : Rw gL wL #[.slice a3 n3 c3] 23 := hnL.row
 obtain ⟨vP, wP, hrP, hNA, hrW, hvc, hv1⟩ := Zos hW1 (hs3.mono (K' := KW gW vM (fun b => X b /\ b ≠ gR)) (fun b hb => ⟨hb.1, hb.2.1, hX b (by have := hb.2.2; omega), by have := hb.2.2; omega⟩)) hLr (by simp only [List.length_append] at hM ⊢; omega)
 refine rw_v 38 vP (fun _ => by kernel_rfl) (fun _ => Zec hrP _ _ rfl (by kernel_rfl) (by kernel_rfl)) <| rp 39 (.pointer (some ⟨gW, 0, none⟩)) <| rp 40 (.pointer (some ⟨gW, 1, none⟩)) <| Ziz gW 1 vP (fun _ => by kernel_rfl) (fun _ => Zbo 28 _ _ gW 1 _ 59 _ hrW rfl (by kernel_rfl) (by kernel_rfl) (by show 1 < 2; omega) hvc hv1 (by kernel_rfl)) ?_
 intro wD hpD
 obtain ⟨hW2, hG2⟩ := hNA wD hpD
 replace hrR := hrR.wgp hG2 hW1 (by decide) (by decide)
 replace hr6 := hr6.wgp hG2 hW1 (by decide) (by decide)
 replace hRf := hRf.wg hG2
 replace hGt := hGt.trans hG2
 clear hW1 hs3
 have hW1 := hW2
 refine Zad <| Zab <| Zac <| Zaa <| rv 41 (.agg y.cells.toArray) (fun _ => Zb8 65 _ _ _ _ _ _ rfl (by kernel_rfl) hr6 Tryz.underlying65 rfl (by rw [Zbx, Zbd hyl])) <| Zbm gR y.cells.toArray (fun _ => by kernel_rfl) (fun _ => Za3 65 _ _ _ _ _ _ rfl (by kernel_rfl) (by kernel_rfl) hrR (by rw [Zbx, Zbd hyl]) (by rw [Zbd hyl]; rfl) (Zcs y)) ?_
 intro wE hpE
 have hrE : Rw gR wE y.cells.toArray 65 := hpE.row hrR
 have hRE := hRf.put hpE (fun b hb => by have := hb.2.2; omega)
 have hWE := (hW1.put hrR (by decide) (by decide) (fun b hb => hb.2) hpE).mono (fun b _ hb => hb.1)
 have hGE := hGt.put hpE (by omega)
 refine Zad <| Zab <| Zap ?_
 exact Zae (.agg y.cells.toArray) (fun _ => Zdo Tryz.results82 _ gR y hyl (by kernel_rfl) hrE) ⟨_, rfl, y, vP, rfl, hRE, (by rw [show wy1 kp pre t = [encT t] from by unfold wy1; rw [if_pos ⟨by omega, hon⟩], <- List.append_assoc]; exact hWE), hGE⟩
set_option maxHeartbeats 4000000 in
theorem Zoj {w : World} {gW base : Nat} {vN : Value} {X Z : Nat -> Prop} {ns : List (List Int)} {kp pre : List Int} {t : Tr} {a ap : Option Addr} {n c dp np cp : Nat} {vs : List (Value × Value)} (hW : Wp w gW (.slice ap np cp) base vN X ns) (hl : PAt (KW gW vN Z) w a n c vs (entN pre t)) (hkp : Sk (KW gW vN Z) w ap np cp kp) (hnp : np <= 1000) (hpl : ∀ e ∈ entN pre t, e.1.length <= 1000) (hn0 : 0 < n) (hdp : dp = pre.length) (hX : ∀ b, w.heap.size <= b -> X b) (hE : ∀ v, Bl w v -> ∀ Y : Nat -> Prop, Wp v gW (.slice ap np cp) base vN Y ns -> (∀ b, v.heap.size <= b -> Y b) -> Calls Tryz.prog 29 #[.pointer (some ⟨gW, 0, none⟩), .slice a n c, .int .i64 ((dp : Nat) : Int)] v fun e w' => ∃ u, e = .returned u /\ REp v gW (.slice ap np cp) base vN Y ns kp pre t u w') (hM : (ns ++ wyN kp t pre).length + 1 <= 8800000000000) (hsh : ¬ (encT t).length < 32) (hon : ¬ kp.take pre.length = pre) :
  Calls Tryz.prog 82 #[.pointer (some ⟨gW, 0, none⟩), .slice a n c, .int .i64 ((dp : Nat) : Int)] w fun e w' => ∃ u, e = .returned u /\ RRp w gW (.slice ap np cp) base vN X ns kp pre t u w' := by
 have hB := Bl.refl w
 have hW0 := hW
 have hl0 := hl
 obtain ⟨gE, oE, a1, n1, c1, a2, n2, c2, k1, x1, ea, hej, hc1, hc2, hs1, hs2e⟩ := hl.at (j := 0) hn0
 subst ea
 have hk1 : ∃ r, k1 = pre ++ r := by
  unfold entN at hej
  rw [List.getElem?_map] at hej
  obtain ⟨e, _, e2⟩ := Option.map_eq_some_iff.1 hej
  cases e2
  exact ⟨_, rfl⟩
 obtain ⟨r1, rfl⟩ := hk1
 have ls1 := hs1.len
 have lkp := hkp.len
 have hb1 : (pre ++ r1).length <= 1000 := hpl _ (List.mem_of_getElem? hej)
 refine Zaj Tryz.func82 rfl 42 rfl ?_
 show CW _ _ _ _ _ _ _ [(0, .pointer (some ⟨gW, 0, none⟩)), (1, .slice (some ⟨gE, oE, none⟩) n c), (2, .int .i64 ((dp : Nat) : Int))] _
 refine Zac <| Zaa <| Zax 6 rz.cells.toArray 65 (fun _ => by kernel_rfl) (fun _ => by kernel_rfl) ?_
 intro w1 gR hnR
 replace hB := hB.go hnR.below
 replace hW := hW.go hnR.below
 have hrR : Rw gR w1 rz.cells.toArray 65 := hnR.row
 have hgR := hnR.hg
 have hsR := hnR.size
 have hWX : Wp w1 gW (.slice ap np cp) base vN (fun b => X b /\ b ≠ gR) ns := (hW0.mono (Y := fun b => X b /\ b ≠ gR) (fun b hb hx => ⟨hx, by omega⟩)).go hnR.below
 refine Zad <| Zab <| Zac <| Zaa <| rp 9 (.pointer (some ⟨gW, 0, none⟩)) <| rp 10 (.slice (some ⟨gE, oE, none⟩) n c) <| rp 11 (.int .i64 ((dp : Nat) : Int)) <| Zao 12 29 #[.pointer (some ⟨gW, 0, none⟩), .slice (some ⟨gE, oE, none⟩) n c, .int .i64 ((dp : Nat) : Int)] (fun _ => by kernel_rfl) (fun _ => by kernel_rfl) (R := REp w1 gW (.slice ap np cp) base vN (fun b => X b /\ b ≠ gR) ns kp pre t) (hE w1 hB (fun b => X b /\ b ≠ gR) hWX (fun b hb => ⟨hX b (by omega), by omega⟩)) ?_
 rintro _ u1 ⟨a3, n3, c3, vM, rfl, hs3, hW1, hG, hen⟩
 replace hrR := hrR.wgp hG hW (by decide) (by decide)
 have hGt := (Wg.of_below hB).trans hG
 clear hW hB
 have hz1 := hG.size
 have ln3 := hs3.len
 refine rp 7 (.slice a3 n3 c3) <| Zad <| Zab <| Zac <| Zaa <| rp 13 (.slice a3 n3 c3) <| Zao 14 118 #[.slice a3 n3 c3] (fun _ => by kernel_rfl) (fun _ => by kernel_rfl) (R := fun u w' => ∃ y : RV, u = .agg y.cells.toArray /\ Rf (fun b => u1.heap.size <= b) w' y (referP (encT t)) /\ Bl u1 w') ((Zdp a3 n3 c3 (encT t) u1 hs3.ag (by omega)).mono (fun e w' h => by obtain ⟨⟨y, e1, h1⟩, h2⟩ := h; exact ⟨_, e1, y, rfl, ⟨h1.go (fun b hb _ => ⟨rfl, hb.1⟩)⟩, h2⟩)) ?_
 rintro _ u2 ⟨y, rfl, hRf, hb2⟩
 have hltW := hW1.lt
 replace hrR := hrR.go hb2
 replace hGt := hGt.go hb2
 replace hW1 := hW1.go hb2
 replace hs3 := hs3.go hb2
 replace hRf : Rf (KW gW vM (fun b => w.heap.size < b)) u2 y (referP (encT t)) := hRf.mono (fun b hb => ⟨fun e => by have := hltW.1; omega, fun e => by have := hltW.2 b e; omega, by omega⟩)
 have hyl := hRf.at'.len
 have hyk : y.k = 2 := by rw [hRf.at'.1, Zes, if_neg hsh]
 refine Zax 8 rz.cells.toArray 65 (fun _ => by kernel_rfl) (fun _ => by kernel_rfl) ?_
 intro wA g6 hnA
 refine Zbm g6 y.cells.toArray (fun _ => by kernel_rfl) (fun _ => Za3 65 _ _ _ _ _ _ rfl (by kernel_rfl) (by kernel_rfl) hnA.row (by rw [Zbx, Zbd hyl]) (by rw [Zbd hyl]; rfl) (Zcs y)) ?_
 intro wC hpC
 have hnC := hnA.put hpC
 replace hrR := hrR.go hnC.below
 replace hGt := hGt.go hnC.below
 replace hW1 := hW1.go hnC.below
 replace hs3 := hs3.go hnC.below
 replace hRf := hRf.go hnC.below
 have hr6 : Rw g6 wC y.cells.toArray 65 := hnC.row
 refine Zad <| Zab <| Zac <| Zac ?_
 have hV := Bl.refl wC
 have hr6c := hr6
 have hW1c := hW1
 have hlw := hl0.wg hGt
 have hkw := hkp.wg hGt
 obtain ⟨gE2, oE2, a5, n5, c5, _, _, _, k5, _, ea5, hej5, hc5, _, hs5, _⟩ := hlw.at (j := 0) hn0
 cases ea5
 rw [hej] at hej5
 cases hej5
 have ls5 := hs5.len
 refine Zaz (fun v => Bl wC v) (by kernel_rfl) (hV.drew) ?_
 replace hrR := hrR.drew
 replace hGt := hGt.drew
 replace hW1 := hW1.drew
 replace hs3 := hs3.drew
 replace hRf := hRf.drew
 replace hr6 := hr6.drew
 replace hV := hV.drew
 refine dt 0 15 (.pointer (some ⟨g6, 0, none⟩)) (fun v hv _ => by kernel_rfl) hV <| dt 1 16 (.int .i64 2) (fun v hv _ => Zah 3 _ ⟨g6, 0, none⟩ _ _ rfl (by kernel_rfl) (by rw [cell_of_row _ _ _ _ _ _ (hr6c.go hv), <- hyk]; rfl) Tryz.underlying3 rfl) hV <| dt 2 17 (.bool true) (fun v hv _ => by kernel_rfl) hV <| dt 3 18 (.bool true) (fun v hv _ => by kernel_rfl) hV <| dt 4 19 (.pointer (some ⟨gW, 0, none⟩)) (fun v hv _ => by kernel_rfl) hV <| dt 5 20 (.pointer (some ⟨gW, 0, none⟩)) (fun v hv => (fun _ => by kernel_rfl)) hV <| dt 6 21 (.pointer (some ⟨gW, 0, none⟩)) (fun v hv _ => by kernel_rfl) hV <| dt 7 22 (.slice ap np cp) (fun v hv _ => Zah 23 _ ⟨gW, 0, none⟩ _ _ rfl (by kernel_rfl) (by rw [cell_of_row _ _ _ _ _ _ (hW1c.r.go hv)]; rfl) Tryz.underlying23 rfl) hV <| dt 8 23 (.slice (some ⟨gE, oE, none⟩) n c) (fun v hv _ => by kernel_rfl) hV <| dt 9 24 (.pointer (some ⟨gE, oE + 0 * 2, none⟩)) (fun v hv _ => Zau 55 _ _ gE oE 0 n c 2 95 rfl (by kernel_rfl) (by kernel_rfl) hn0 Tryz.underlying55 (by kernel_rfl)) hV <| dt 10 25 (.pointer (some ⟨gE, oE + 0 * 2, none⟩)) (fun v hv _ => by kernel_rfl) hV <| dt 11 26 (.slice a5 n5 c5) (fun v hv _ => Zah 23 _ _ _ _ rfl (by kernel_rfl) ((Below.cell hv (block_lt_of_cell hc5)).trans hc5) Tryz.underlying23 rfl) hV ?_
 refine dt 13 28 (.int .i64 ((dp : Nat) : Int)) (fun v hv _ => by kernel_rfl) hV <| Zaf [12] (by kernel_rfl) (by simp) ?_
 refine Zat 12 27 81 #[.slice ap np cp, .slice a5 n5 c5] rfl (fun _ => by kernel_rfl) (fun _ => by kernel_rfl) (R := fun u w' => u = .int .i64 (Ni.com kp (pre ++ r1) : Nat) /\ Bl (wC.drew) w') (((Ni.common_any _ _ _ _ _ _ kp (pre ++ r1) _ (hkw.go hV).ag (hs5.go hV).ag (by omega) (by omega)).mono (fun e w' h => ⟨_, h.1, rfl, h.2⟩))) (fun u w' h => hV.go h.2) ?_ Zam
 rintro _ u5 ⟨rfl, hb5⟩
 replace hrR := hrR.go hb5
 replace hGt := hGt.go hb5
 replace hW1 := hW1.go hb5
 replace hs3 := hs3.go hb5
 replace hRf := hRf.go hb5
 replace hr6 := hr6.go hb5
 replace hV := hV.go hb5
 refine dt 14 29 (.bool false) (fun v hv => (fun _ => Zag (v := .bool (decide (((Ni.com kp (pre ++ r1) : Nat) : Int) ≥ ((dp : Nat) : Int)))) (by kernel_rfl) (congrArg Value.bool (decide_eq_false (fun h => hon ((Zme r1 pre kp).1 (by omega))))))) hV <| dt 15 30 (.bool false) (fun v hv _ => by kernel_rfl) hV <| Zas (by kernel_rfl) <| Zab <| Zai (fun _ => by kernel_rfl) <| Zan <| Zab <| Zac <| Zaa <| rv 41 (.agg y.cells.toArray) (fun _ => Zb8 65 _ _ _ _ _ _ rfl (by kernel_rfl) hr6 Tryz.underlying65 rfl (by rw [Zbx, Zbd hyl])) <| Zbm gR y.cells.toArray (fun _ => by kernel_rfl) (fun _ => Za3 65 _ _ _ _ _ _ rfl (by kernel_rfl) (by kernel_rfl) hrR (by rw [Zbx, Zbd hyl]) (by rw [Zbd hyl]; rfl) (Zcs y)) ?_
 intro wE hpE
 have hrE : Rw gR wE y.cells.toArray 65 := hpE.row hrR
 have hRE := hRf.put hpE (fun b hb => by have := hb.2.2; omega)
 have hWE := (hW1.put hrR (by decide) (by decide) (fun b hb => hb.2) hpE).mono (fun b _ hb => hb.1)
 have hGE := hGt.put hpE (by omega)
 refine Zad <| Zab <| Zap ?_
 exact Zae (.agg y.cells.toArray) (fun _ => Zdo Tryz.results82 _ gR y hyl (by kernel_rfl) hrE) ⟨_, rfl, y, vM, rfl, hRE, (by rw [show wy1 kp pre t = [] from by unfold wy1; rw [if_neg (fun h => hon h.2)], List.append_nil]; exact hWE), hGE⟩
def chnk (k : Nat -> Tr) (i : Nat) : PList := (entsR (k i)).map fun e => (((i : Nat) : Int) :: e.1, e.2)
theorem Zjl (k : Nat -> Tr) (x : List Int) : entsR (br k x) = (if x = [] then [] else [([], x)]) ++ (List.range 16).flatMap (chnk k) := rfl
theorem Zd7 {k : Nat -> Tr} {i : Nat} {e : List Int × List Int} (h : e ∈ chnk k i) : ∃ p, e.1 = ((i : Nat) : Int) :: p := by
 obtain ⟨f, _, rfl⟩ := List.mem_map.1 h
 exact ⟨_, rfl⟩
theorem Zxd (k : Nat -> Tr) (n : Nat) : ((List.range n).flatMap (chnk k)).Pairwise (fun e f => e.1.getD 0 0 <= f.1.getD 0 0) := by
 refine Zfj (chnk k) n (fun i _ => ?_) (fun i j hij _ a ha b hb => ?_)
 ·refine List.Pairwise.imp_of_mem (R := fun _ _ => True) (fun ha hb _ => ?_) (List.pairwise_of_forall (fun _ _ => trivial))
  obtain ⟨p, hp⟩ := Zd7 ha
  obtain ⟨q, hq⟩ := Zd7 hb
  rw [hp, hq]; exact Int.le_refl _
 ·obtain ⟨p, hp⟩ := Zd7 ha
  obtain ⟨q, hq⟩ := Zd7 hb
  rw [hp, hq]
  show ((i : Nat) : Int) <= ((j : Nat) : Int)
  omega
theorem Z0f {k : Nat -> Tr} {x : List Int} {B : Nat} (h : Tr.Ok B (br k x)) {e f : List Int × List Int} (he : (entsR (br k x))[0]? = some e) (hf : (entsR (br k x))[(entsR (br k x)).length - 1]? = some f) : Ni.com e.1 f.1 = 0 := by
 by_cases hx : x = []
 ·have hL : entsR (br k x) = (List.range 16).flatMap (chnk k) := by rw [Zjl, if_pos hx]; rfl
  rw [hL] at he hf
  have hp := Zxd k 16
  have hall : ∀ g ∈ (List.range 16).flatMap (chnk k), e.1.getD 0 0 <= g.1.getD 0 0 /\ g.1.getD 0 0 <= f.1.getD 0 0 := by
   intro g hg
   obtain ⟨m, hm, rfl⟩ := List.getElem_of_mem hg
   have h0 : e = ((List.range 16).flatMap (chnk k))[0]'(by omega) := by rw [List.getElem?_eq_getElem (by omega)] at he; cases he; rfl
   have h1 : f = ((List.range 16).flatMap (chnk k))[((List.range 16).flatMap (chnk k)).length - 1]'(by omega) := by rw [List.getElem?_eq_getElem (by omega)] at hf; cases hf; rfl
   have pw := List.pairwise_iff_getElem.1 hp
   constructor
   ·rcases Nat.eq_zero_or_pos m with q | q
    ·subst q; rw [h0]; exact Int.le_refl _
    ·rw [h0]; exact pw 0 m (by omega) hm q
   ·rcases Nat.lt_or_ge m (((List.range 16).flatMap (chnk k)).length - 1) with q | q
    ·rw [h1]; exact pw m _ hm (by omega) q
    ·have : m = ((List.range 16).flatMap (chnk k)).length - 1 := by omega
     subst this; rw [h1]; exact Int.le_refl _
  obtain ⟨i, _, hi⟩ := List.mem_flatMap.1 (List.mem_of_getElem? he)
  obtain ⟨j, _, hj⟩ := List.mem_flatMap.1 (List.mem_of_getElem? hf)
  obtain ⟨p, hpe⟩ := Zd7 hi
  obtain ⟨q, hqe⟩ := Zd7 hj
  rw [hpe, hqe]
  simp only [Ni.com]
  rw [if_neg]
  intro hij
  have hone : ∀ m, k m ≠ no -> ((m : Nat) : Int) = ((i : Nat) : Int) := by
   intro m hm
   obtain ⟨r, v, hmem⟩ := Zji h hm
   rw [hL] at hmem
   have := hall _ hmem
   rw [hpe, hqe, <- hij] at this
   simp only [List.getD_cons_zero] at this
   omega
  rcases h.2 with ⟨m, m', hne, h1, h2⟩ | ⟨hx', _⟩
  ·have := hone m h1
   have := hone m' h2
   omega
  ·exact hx' hx
 ·have he' : e = ([], x) := by
   rw [Zjl, if_neg hx] at he
   simp at he; exact he.symm
  rw [he']
  cases f.1 <;> rfl
theorem Sk.short {K : Nat -> Prop} {w : World} {a : Option Addr} {n c : Nat} {bs : List Int} (h : Sk K w a n c bs) (f : Nat) (hf : f <= n) : Sk K w a f c (bs.take f) := by
 have q := h.upto f hf
 have e : (if c = 0 then a else a.map (·.add (0 * 1))) = a := by
  split
  ·rfl
  ·cases a with
   | none => rfl
   | some x => obtain ⟨b, o, s⟩ := x; cases s <;> simp [Addr.add]
 rw [e] at q
 exact q
theorem Sk.cut2 {K : Nat -> Prop} {w : World} {a : Option Addr} {n c : Nat} {bs : List Int} (h : Sk K w a n c bs) (l u : Nat) (hl : l <= u) (hu : u <= n) :
  ∃ a' n' c', (∀ (v : World) (ρ : Operand -> Value) (o : Oper) (x y z : Operand) (i k : Int), o.op = .slice 23 x (some y) (some z) none -> ρ x = .slice a n c -> ρ y = .int .i64 i -> ρ z = .int .i64 k -> i = l -> k = u -> (execOp ρ o).run Tryz.prog v = .ok (.value (.slice a' n' c')) v) /\ Sk K w a' n' c' ((bs.take u).drop l) /\ n' = u - l := by
 have hnc : n <= c := by
  rcases h.ag.i with ⟨q, _⟩ | ⟨_, _, _, _, _, q, _, _⟩
  ·omega
  ·exact q
 refine ⟨_, _, _, ?_, (h.short u hu).from l hl, rfl⟩
 intro v ρ o x y z i k ho hx hy hz hi hk
 subst hi hk
 have h1 : u <= c := by omega
 unfold execOp
 rw [ho]
 simp [hx, hy, hz, Instr.sliceAt, run_underlying Tryz.underlying23, Instr.slice, Instr.sliceBounds, Instr.sliceBound, asIntOf, hl, h1, Result.andThen]
theorem Zjm {pre : List Int} {t : Tr} {j : Nat} {k x : List Int} (h : (entN pre t)[j]? = some (k, x)) : ∃ e, (entsR t)[j]? = some e /\ k = pre ++ e.1 /\ x = e.2 := by
 unfold entN at h
 rw [List.getElem?_map] at h
 obtain ⟨e, h1, h2⟩ := Option.map_eq_some_iff.1 h
 cases h2
 exact ⟨e, h1, rfl, rfl⟩
def RNq (Q : Nat -> Prop) (w : World) (gW : Nat) (PV : Value) (base : Nat) (vN : Value) (X : Nat -> Prop) (ns : List (List Int)) (kp pre : List Int) (t : Tr) : Value -> World -> Prop := fun u w' => ∃ (y : NV) (vN' : Value), u = .agg y.cells.toArray /\ NodeAt Q w' y (nodeP t) /\ Wp w' gW PV base vN' X (ns ++ wyN kp t pre) /\ Wg w w' gW vN vN'
theorem Zde (pre : List Int) (t : Tr) : (entN pre t).length = (entsR t).length := by simp [entN]
set_option maxHeartbeats 4000000 in
theorem Zok {w : World} {gW base : Nat} {vN : Value} {X Z : Nat -> Prop} {ns : List (List Int)} {kp pre : List Int} {q x : List Int} {a ap : Option Addr} {n c dp np cp : Nat} {vs : List (Value × Value)} (hW : Wp w gW (.slice ap np cp) base vN X ns) (hl : PAt (KW gW vN Z) w a n c vs (entN pre (leaf q x))) (hpl : ∀ e ∈ entN pre (leaf q x), e.1.length <= 1000) (hdp : dp = pre.length) (hxl : x.length <= 1000)  :
  Calls Tryz.prog 56 #[.pointer (some ⟨gW, 0, none⟩), .slice a n c, .int .i64 ((dp : Nat) : Int)] w fun e w' => ∃ u, e = .returned u /\ RNp w gW (.slice ap np cp) base vN X ns kp pre (leaf q x) u w' := by
 have hB := Bl.refl w
 have hW0 := hW
 have hl0 := hl
 have hn1 : 1 = n := hl.ll
 subst hn1
 obtain ⟨gE, oE, a1, n1, c1, a2, n2, c2, k1, x1, ea, hej, hc1, hc2, hs1, hs2⟩ := hl.at (j := 0) (by omega)
 subst ea
 cases hej
 have ls1 : (pre ++ q).length = n1 := hs1.len
 have hb1 := hpl _ (List.mem_of_getElem? (show (entN pre (leaf q x))[0]? = some _ from rfl))
 simp only at hb1
 refine Zaj Tryz.func56 rfl 53 rfl ?_
 show CW _ _ _ _ _ _ _ [(0, .pointer (some ⟨gW, 0, none⟩)), (1, .slice (some ⟨gE, oE, none⟩) 1 c), (2, .int .i64 ((dp : Nat) : Int))] _
 refine Zac <| Zaa <| Zax 6 nz.cells.toArray 68 (fun _ => by kernel_rfl) (fun _ => by kernel_rfl) ?_
 intro w1 g6 hn6
 have h6 : Rw g6 w1 nz.cells.toArray 68 := hn6.row
 have hg6 := hn6.hg
 have hsz6 := hn6.size
 replace hB := hB.go hn6.below
 replace hW := hW.go hn6.below
 have hWX : Wp w1 gW (.slice ap np cp) base vN (fun b => X b /\ b ≠ g6) ns := (hW0.mono (Y := fun b => X b /\ b ≠ g6) (fun b hb hx => ⟨hx, by omega⟩)).go hn6.below
 refine Zad <| Zab <| Zac <| Zaz (fun v => Bl w v) (by kernel_rfl) (hB.drew) ?_
 replace hB := hB.drew
 replace hW := hW.drew
 replace h6 := h6.drew
 replace hWX := hWX.drew
 refine dt 0 10 (.slice (some ⟨gE, oE, none⟩) 1 c) (fun v hv _ => by kernel_rfl) hB <| dt 1 11 (.pointer (some ⟨gE, oE + 0 * 2, none⟩)) (fun v hv _ => Zau 55 _ _ gE oE 0 1 c 2 95 rfl (by kernel_rfl) (by kernel_rfl) (by omega) Tryz.underlying55 (by kernel_rfl)) hB <| dt 2 12 (.pointer (some ⟨gE, oE + 0 * 2, none⟩)) (fun v hv _ => by kernel_rfl) hB <| dt 3 13 (.slice a1 n1 c1) (fun v hv _ => Zah 23 _ _ _ _ rfl (by kernel_rfl) ((Below.cell hv (block_lt_of_cell hc1)).trans hc1) Tryz.underlying23 rfl) hB <| dt 4 14 (.slice (some ⟨gE, oE, none⟩) 1 c) (fun v hv _ => by kernel_rfl) hB <| dt 5 15 (.slice (some ⟨gE, oE, none⟩) 1 c) (fun v hv _ => by kernel_rfl) hB <| dt 6 16 (.int .i64 1) (fun v hv _ => by kernel_rfl) hB <| dt 7 17 (.int .i64 0) (fun v hv _ => by kernel_rfl) hB <| dt 8 18 (.pointer (some ⟨gE, oE + 0 * 2, none⟩)) (fun v hv _ => Zau 55 _ _ gE oE 0 1 c 2 95 rfl (by kernel_rfl) (by kernel_rfl) (by omega) Tryz.underlying55 (by kernel_rfl)) hB <| dt 9 19 (.pointer (some ⟨gE, oE + 0 * 2, none⟩)) (fun v hv _ => by kernel_rfl) hB <| dt 10 20 (.slice a1 n1 c1) (fun v hv _ => Zah 23 _ _ _ _ rfl (by kernel_rfl) ((Below.cell hv (block_lt_of_cell hc1)).trans hc1) Tryz.underlying23 rfl) hB <| dt 11 7 (.slice a1 n1 c1) (fun v hv _ => by kernel_rfl) hB ?_
 refine dt 12 8 (.slice a1 n1 c1) (fun v hv _ => by kernel_rfl) hB <| Zas (by kernel_rfl) <| Zab <| Zac <| Zaa <| rp 21 (.slice a1 n1 c1) <| rp 22 (.slice a1 n1 c1) <| Zao 23 81 #[.slice a1 n1 c1, .slice a1 n1 c1] (fun _ => by kernel_rfl) (fun _ => by kernel_rfl) (R := fun u w' => u = .int .i64 ((Ni.com (pre ++ q) (pre ++ q) : Nat) : Int) /\ Bl (w1.drew) w') (((Ni.common_any _ _ _ _ _ _ (pre ++ q) (pre ++ q) _ (hs1.go hB).ag (hs1.go hB).ag (by omega) (by omega)).mono (fun e w' h => ⟨_, h.1, rfl, h.2⟩))) ?_
 rintro _ u2 ⟨rfl, hb2⟩
 replace hB := hB.go hb2
 replace hW := hW.go hb2
 replace h6 := h6.go hb2
 replace hWX := hWX.go hb2
 refine rp 9 (.int .i64 ((Ni.com (pre ++ q) (pre ++ q) : Nat) : Int)) <| Zad <| Zab <| Zac <| Zar <| Zac <| Zaa <| rp 25 (.slice (some ⟨gE, oE, none⟩) 1 c) <| rp 26 (.int .i64 1) <| rp 27 (.bool true) <| rp 24 (.bool true) <| Zad ?_
 refine Zab <| Zak (fun _ => by kernel_rfl) <| Zac ?_
 obtain ⟨a9, n9, c9, hr9, hs9⟩ := hs1.cutFrom dp (by rw [<- ls1, List.length_append]; omega)
 rw [hdp, List.drop_left] at hs9
 have ls9 : q.length = n9 := hs9.len
 have ls2 : x.length = n2 := hs2.len
 have hql : q.length <= 1000 := by rw [List.length_append] at hb1; omega
 refine Zaz (fun v => Bl w v) (by kernel_rfl) (hB.drew) ?_
 replace hB := hB.drew
 replace hW := hW.drew
 replace h6 := h6.drew
 replace hWX := hWX.drew
 refine dt 0 28 (.slice a1 n1 c1) (fun v hv _ => by kernel_rfl) hB <| dt 1 29 (.int .i64 ((dp : Nat) : Int)) (fun v hv _ => by kernel_rfl) hB <| dt 2 30 (.slice a9 n9 c9) (fun v hv _ => hr9 _ _ _ _ _ _ rfl (by kernel_rfl) (by kernel_rfl) rfl) hB <| dt 3 31 (.slice (some ⟨gE, oE, none⟩) 1 c) (fun v hv _ => by kernel_rfl) hB <| dt 4 32 (.pointer (some ⟨gE, oE + 0 * 2, none⟩)) (fun v hv _ => Zau 55 _ _ gE oE 0 1 c 2 95 rfl (by kernel_rfl) (by kernel_rfl) (by omega) Tryz.underlying55 (by kernel_rfl)) hB <| dt 5 33 (.pointer (some ⟨gE, oE + 0 * 2 + 1, none⟩)) (fun v hv _ => by kernel_rfl) hB <| dt 6 34 (.slice a2 n2 c2) (fun v hv _ => Zah 23 _ _ _ _ rfl (by kernel_rfl) ((Below.cell hv (block_lt_of_cell hc2)).trans hc2) Tryz.underlying23 rfl) hB <| dt 7 35 (.agg (NV.cells ⟨1, a9, n9, c9, a2, n2, c2, rz, none, 0, 0⟩).toArray) (fun v hv _ => Zdb 68 _ [(0, .int .i64 1), (1, .slice a9 n9 c9), (2, .slice a2 n2 c2)] _ rfl (by kernel_rfl) (Zjx _ _ _ _ _ _)) hB <| Zaf [8] (by kernel_rfl) (by simp) ?_
 refine Zsy 8 g6 (NV.cells ⟨1, a9, n9, c9, a2, n2, c2, rz, none, 0, 0⟩).toArray rfl (fun _ => by kernel_rfl) (fun _ => Za3 68 _ _ _ _ _ _ rfl (by kernel_rfl) (by kernel_rfl) h6 (by kernel_rfl) (by kernel_rfl) (by kernel_rfl)) (fun w' h => h.below hB (by omega) hB.size) ?_ Zam
 intro w9 hp9
 have h9 : Rw g6 w9 (NV.cells ⟨1, a9, n9, c9, a2, n2, c2, rz, none, 0, 0⟩).toArray 68 := hp9.row h6
 replace hB : Bl w w9 := hp9.below hB (by omega) hB.size
 refine Zas (by kernel_rfl) <| Zab <| Zap <| Za6 <| Zaq ?_
 exact Zae (.agg (NV.cells ⟨1, a9, n9, c9, a2, n2, c2, rz, none, 0, 0⟩).toArray) (fun _ => Zci Tryz.results56 _ g6 ⟨1, a9, n9, c9, a2, n2, c2, rz, none, 0, 0⟩ rfl (by kernel_rfl) h9) ⟨_, rfl, ⟨1, a9, n9, c9, a2, n2, c2, rz, none, 0, 0⟩, vN, rfl, ⟨rfl, (hs9.go hB).agk (by omega), (hs2.go hB).agk (by omega), Zgc _, ⟨rfl, Nat.le_refl _, Nat.zero_le _, Nat.zero_le _, fun _ => ⟨rfl, rfl⟩⟩, fun j r hr => by simp [nodeP] at hr⟩, (by rw [show wyN kp (leaf q x) pre = [] from rfl, List.append_nil]; exact hW0.go hB), Wg.of_below hB⟩
set_option maxHeartbeats 4000000 in
theorem Zqm {w : World} {gW base : Nat} {vN : Value} {X Z : Nat -> Prop} {ns : List (List Int)} {kp pre : List Int} {q x : List Int} {k : Nat -> Tr} {B : Nat} {a ap : Option Addr} {n c dp np cp : Nat} {vs : List (Value × Value)} (hW : Wp w gW (.slice ap np cp) base vN X ns) (hl : PAt (KW gW vN Z) w a n c vs (entN pre (ext q (br k x)))) (hpl : ∀ e ∈ entN pre (ext q (br k x)), e.1.length <= 1000) (hdp : dp = pre.length) (hOb : Tr.Ok B (br k x)) (hq0 : q ≠ []) (hn2_ : 2 <= n) (hnb : n <= 5000000000000) (hX : ∀ b, w.heap.size <= b -> X b) (hR : ∀ v, Bl w v -> ∀ Y : Nat -> Prop, Wp v gW (.slice ap np cp) base vN Y ns -> (∀ b, v.heap.size <= b -> Y b) -> Calls Tryz.prog 82 #[.pointer (some ⟨gW, 0, none⟩), .slice a n c, .int .i64 ((pre.length + q.length : Nat) : Int)] v fun e w' => ∃ u, e = .returned u /\ RRp v gW (.slice ap np cp) base vN Y ns kp (pre ++ q) (br k x) u w')  :
  Calls Tryz.prog 56 #[.pointer (some ⟨gW, 0, none⟩), .slice a n c, .int .i64 ((dp : Nat) : Int)] w fun e w' => ∃ u, e = .returned u /\ RNp w gW (.slice ap np cp) base vN X ns kp pre (ext q (br k x)) u w' := by
 have hB := Bl.refl w
 have hW0 := hW
 have hl0 := hl
 replace hl : PAt (KW gW vN (fun b => b < w.heap.size)) w a n c vs _ := hl.old.mono (fun b hb => ⟨hb.1.1, hb.1.2.1, hb.2⟩)
 rw [Ze8] at hl hl0
 have hq1 : 0 < q.length := List.length_pos_iff.2 hq0
 obtain ⟨gE, oE, a1, n1, c1, a2, n2, c2, k1, x1, ea, hej, hc1, hc2, hs1, hs2⟩ := hl.at (j := 0) (by omega)
 subst ea
 obtain ⟨gE2, oE2, a3, n3, c3, a4, n4, c4, k3, x3, ea, hej3, hc3, hc4, hs3, hs4⟩ := hl.at (j := n - 1) (by omega)
 cases ea
 obtain ⟨e1, he1, rfl, rfl⟩ := Zjm hej
 obtain ⟨e3, he3, rfl, rfl⟩ := Zjm hej3
 have hln : (entsR (br k x)).length = n := by rw [<- Zde (pre ++ q)]; exact hl.ll
 have hfl := Z0f hOb he1 (by rw [hln]; exact he3)
 have hcom : Ni.com (pre ++ q ++ e1.1) (pre ++ q ++ e3.1) = pre.length + q.length := by rw [Zsf, hfl, List.length_append]; omega
 have ls1 : (pre ++ q ++ e1.1).length = n1 := hs1.len
 have hb1 := hpl _ (List.mem_of_getElem? (by rw [Ze8]; exact hej))
 simp only at hb1
 have ls3 := hs3.len
 have hb3 := hpl _ (List.mem_of_getElem? (by rw [Ze8]; exact hej3))
 simp only at hb3
 refine Zaj Tryz.func56 rfl 53 rfl ?_
 show CW _ _ _ _ _ _ _ [(0, .pointer (some ⟨gW, 0, none⟩)), (1, .slice (some ⟨gE, oE, none⟩) n c), (2, .int .i64 ((dp : Nat) : Int))] _
 refine Zac <| Zaa <| Zax 6 nz.cells.toArray 68 (fun _ => by kernel_rfl) (fun _ => by kernel_rfl) ?_
 intro w1 g6 hn6
 have h6 : Rw g6 w1 nz.cells.toArray 68 := hn6.row
 have hg6 := hn6.hg
 have hsz6 := hn6.size
 replace hB := hB.go hn6.below
 replace hW := hW.go hn6.below
 have hWX : Wp w1 gW (.slice ap np cp) base vN (fun b => X b /\ b ≠ g6) ns := (hW0.mono (Y := fun b => X b /\ b ≠ g6) (fun b hb hx => ⟨hx, by omega⟩)).go hn6.below
 refine Zad <| Zab <| Zac <| Zaz (fun v => Bl w v) (by kernel_rfl) (hB.drew) ?_
 replace hB := hB.drew
 replace hW := hW.drew
 replace h6 := h6.drew
 replace hWX := hWX.drew
 refine dt 0 10 (.slice (some ⟨gE, oE, none⟩) n c) (fun v hv _ => by kernel_rfl) hB <| dt 1 11 (.pointer (some ⟨gE, oE + 0 * 2, none⟩)) (fun v hv _ => Zau 55 _ _ gE oE 0 n c 2 95 rfl (by kernel_rfl) (by kernel_rfl) (by omega) Tryz.underlying55 (by kernel_rfl)) hB <| dt 2 12 (.pointer (some ⟨gE, oE + 0 * 2, none⟩)) (fun v hv _ => by kernel_rfl) hB <| dt 3 13 (.slice a1 n1 c1) (fun v hv _ => Zah 23 _ _ _ _ rfl (by kernel_rfl) ((Below.cell hv (block_lt_of_cell hc1)).trans hc1) Tryz.underlying23 rfl) hB <| dt 4 14 (.slice (some ⟨gE, oE, none⟩) n c) (fun v hv _ => by kernel_rfl) hB <| dt 5 15 (.slice (some ⟨gE, oE, none⟩) n c) (fun v hv _ => by kernel_rfl) hB <| dt 6 16 (.int .i64 n) (fun v hv _ => by kernel_rfl) hB <| dt 7 17 (.int .i64 ((n : Int) - 1)) (fun v hv => (fun _ => Zag (v := .int .i64 (IntKind.i64.wrap ((n : Int) - 1))) (by kernel_rfl) (congrArg (Value.int .i64) (Zbc (by omega) (by omega))))) hB <| dt 8 18 (.pointer (some ⟨gE, oE + (n - 1) * 2, none⟩)) (fun v hv _ => Zcj (kd := .i64) (i := (n : Int) - 1) 55 _ _ gE oE (n - 1) n c 2 95 rfl (by kernel_rfl) (by kernel_rfl) (by omega) (by omega) Tryz.underlying55 (by kernel_rfl)) hB <| dt 9 19 (.pointer (some ⟨gE, oE + (n - 1) * 2, none⟩)) (fun v hv _ => by kernel_rfl) hB <| dt 10 20 (.slice a3 n3 c3) (fun v hv _ => Zah 23 _ _ _ _ rfl (by kernel_rfl) ((Below.cell hv (block_lt_of_cell hc3)).trans hc3) Tryz.underlying23 rfl) hB <| dt 11 7 (.slice a1 n1 c1) (fun v hv _ => by kernel_rfl) hB ?_
 refine dt 12 8 (.slice a3 n3 c3) (fun v hv _ => by kernel_rfl) hB <| Zas (by kernel_rfl) <| Zab <| Zac <| Zaa <| rp 21 (.slice a1 n1 c1) <| rp 22 (.slice a3 n3 c3) <| Zao 23 81 #[.slice a1 n1 c1, .slice a3 n3 c3] (fun _ => by kernel_rfl) (fun _ => by kernel_rfl) (R := fun u w' => u = .int .i64 ((pre.length + q.length : Nat) : Int) /\ Bl (w1.drew) w') (((Ni.common_any _ _ _ _ _ _ (pre ++ q ++ e1.1) (pre ++ q ++ e3.1) _ (hs1.go hB).ag (hs3.go hB).ag (by omega) (by omega)).mono (fun e w' h => ⟨_, h.1, by rw [hcom], h.2⟩))) ?_
 rintro _ u2 ⟨rfl, hb2⟩
 replace hB := hB.go hb2
 replace hW := hW.go hb2
 replace h6 := h6.go hb2
 replace hWX := hWX.go hb2
 refine rp 9 (.int .i64 ((pre.length + q.length : Nat) : Int)) <| Zad <| Zab <| Zac <| Zar <| Zac <| Zaa <| rp 25 (.slice (some ⟨gE, oE, none⟩) n c) <| rp 26 (.int .i64 n) <| rv 27 (.bool false) (fun _ => Zag (v := .bool ((n : Int) == (1 : Int))) (by kernel_rfl) (congrArg Value.bool (beq_eq_false_iff_ne.2 (by omega)))) <| rp 24 (.bool false) <| Zad ?_
 refine Zab <| Zai (fun _ => by kernel_rfl) <| Zac <| Zaa <| rp 37 (.int .i64 ((pre.length + q.length : Nat) : Int)) <| rp 38 (.int .i64 ((dp : Nat) : Int)) <| rv 39 (.bool true) (fun _ => Zag (v := .bool (decide (((pre.length + q.length : Nat) : Int) > ((dp : Nat) : Int)))) (by kernel_rfl) (congrArg Value.bool (decide_eq_true (by omega)))) <| rp 36 (.bool true) <| Zad <| Zab <| Zak (fun _ => by kernel_rfl) <| Zac ?_
 obtain ⟨a9, n9, c9, hr9, hs9, _⟩ := hs1.cut2 dp (pre.length + q.length) (by omega) (by rw [<- ls1]; simp only [List.length_append]; omega)
 rw [show ((pre ++ q ++ e1.1).take (pre.length + q.length)).drop dp = q from by rw [hdp, <- List.length_append, List.take_left, List.drop_left]] at hs9
 have ls9 : q.length = n9 := hs9.len
 have hql : q.length <= 1000 := by simp only [List.length_append] at hb1; omega
 refine Zaz (fun v => True) (by kernel_rfl) (trivial) ?_
 replace hB := hB.drew
 replace hW := hW.drew
 replace h6 := h6.drew
 replace hWX := hWX.drew
 refine dt 0 40 (.slice a1 n1 c1) (fun v hv _ => by kernel_rfl) trivial <| dt 1 41 (.int .i64 ((dp : Nat) : Int)) (fun v hv _ => by kernel_rfl) trivial <| dt 2 42 (.int .i64 ((pre.length + q.length : Nat) : Int)) (fun v hv _ => by kernel_rfl) trivial <| dt 3 43 (.slice a9 n9 c9) (fun v hv _ => hr9 _ _ _ _ _ _ _ _ rfl (by kernel_rfl) (by kernel_rfl) (by kernel_rfl) rfl rfl) trivial <| dt 4 44 (.pointer (some ⟨gW, 0, none⟩)) (fun v hv _ => by kernel_rfl) trivial <| dt 5 45 (.slice (some ⟨gE, oE, none⟩) n c) (fun v hv _ => by kernel_rfl) trivial <| dt 6 46 (.int .i64 ((pre.length + q.length : Nat) : Int)) (fun v hv _ => by kernel_rfl) trivial <| Zaf [7] (by kernel_rfl) (by simp) ?_
 refine Zat 7 47 82 #[.pointer (some ⟨gW, 0, none⟩), .slice (some ⟨gE, oE, none⟩) n c, .int .i64 ((pre.length + q.length : Nat) : Int)] rfl (fun _ => by kernel_rfl) (fun _ => by kernel_rfl) (R := RRp (u2.drew) gW (.slice ap np cp) base vN (fun b => X b /\ b ≠ g6) ns kp (pre ++ q) (br k x)) (hR (u2.drew) hB (fun b => X b /\ b ≠ g6) hWX (fun b hb => ⟨hX b (Nat.le_trans hB.size hb), fun e => by have hq : g6 < (u2.drew).heap.size := lt_of_get h6; omega⟩)) (fun u w' h => trivial) ?_ Zam
 rintro _ u3 ⟨y, vM, rfl, hRf, hW1, hG⟩
 have hq1 : g6 < _ := lt_of_get h6
 replace h6 := h6.wgp hG hWX (by decide) (by decide)
 have hGt := (Wg.of_below hB).trans hG
 have hsp := (hs9.go hB).wg hG
 have hyl := hRf.at'.len
 clear hB hW hWX
 refine dt 8 48 (.agg (NV.cells ⟨2, a9, n9, c9, none, 0, 0, y, none, 0, 0⟩).toArray) (fun v hv _ => Zdb 68 _ [(0, .int .i64 2), (1, .slice a9 n9 c9), (3, .agg y.cells.toArray)] _ rfl (by kernel_rfl) (Zgl _ _ _ _ hyl)) trivial <| Zaf [9] (by kernel_rfl) (by simp) ?_
 refine Zsy 9 g6 ((NV.cells ⟨2, a9, n9, c9, none, 0, 0, y, none, 0, 0⟩).toArray) rfl (fun _ => by kernel_rfl) (fun _ => Za3 68 _ _ _ _ _ _ rfl (by kernel_rfl) (by kernel_rfl) h6 (by rw [Zc1, Zbn (y := ⟨2, a9, n9, c9, none, 0, 0, y, none, 0, 0⟩) hyl]) (by rw [Zbn (y := ⟨2, a9, n9, c9, none, 0, 0, y, none, 0, 0⟩) hyl]; rfl) (Zew _)) (fun w' h => trivial) ?_ Zam
 intro w1 hp2
 have hrE : Rw g6 w1 (NV.cells ⟨2, a9, n9, c9, none, 0, 0, y, none, 0, 0⟩).toArray 68 := hp2.row h6
 have hRE := hRf.put hp2 (fun b hb => by have := hb.2.2; omega)
 have hpE := hsp.keep (L := fun _ => True) (fun b hb hl => ⟨hp2.other (by have : b < w.heap.size := hb.2.2; omega), trivial⟩)
 have hWE := (hW1.put h6 (by decide) (by decide) (fun b hb => hb.2) hp2).mono (fun b _ hb => hb.1)
 have hGE := hGt.put hp2 (by omega)
 refine Zas (by kernel_rfl) <| Zab <| Zap <| Za6 <| Zaq ?_
 exact Zae (.agg (NV.cells ⟨2, a9, n9, c9, none, 0, 0, y, none, 0, 0⟩).toArray) (fun _ => Zci Tryz.results56 _ g6 ⟨2, a9, n9, c9, none, 0, 0, y, none, 0, 0⟩ hyl (by kernel_rfl) hrE) ⟨_, rfl, ⟨2, a9, n9, c9, none, 0, 0, y, none, 0, 0⟩, vM, rfl, ⟨rfl, hpE.agk (by omega), Zmh _, hRE.at'.go (fun b hb _ => ⟨rfl, trivial⟩), ⟨rfl, Nat.le_refl _, Nat.zero_le _, Nat.zero_le _, fun _ => ⟨rfl, rfl⟩⟩, fun j r hr => by simp [nodeP] at hr⟩, hWE, hGE⟩
set_option maxHeartbeats 4000000 in
theorem Zt2 {w : World} {gW base : Nat} {vN : Value} {X Z : Nat -> Prop} {ns : List (List Int)} {kp pre : List Int} {x : List Int} {k : Nat -> Tr} {B : Nat} {a ap : Option Addr} {n c dp np cp : Nat} {vs : List (Value × Value)} (hW : Wp w gW (.slice ap np cp) base vN X ns) (hl : PAt (KW gW vN Z) w a n c vs (entN pre (br k x))) (hpl : ∀ e ∈ entN pre (br k x), e.1.length <= 1000) (hdp : dp = pre.length) (hOb : Tr.Ok B (br k x)) (hn2_ : 2 <= n) (hnb : n <= 5000000000000) (hX : ∀ b, w.heap.size <= b -> X b) (hBr : ∀ v, Bl w v -> ∀ Y : Nat -> Prop, Wp v gW (.slice ap np cp) base vN Y ns -> (∀ b, v.heap.size <= b -> Y b) -> ∀ Q : Nat -> Prop, (∀ b, b < w.heap.size -> Q b) -> (∀ b, v.heap.size <= b -> Q b) -> Calls Tryz.prog 83 #[.pointer (some ⟨gW, 0, none⟩), .slice a n c, .int .i64 ((dp : Nat) : Int)] v fun e w' => ∃ u, e = .returned u /\ RNq Q v gW (.slice ap np cp) base vN Y ns kp pre (br k x) u w')  :
  Calls Tryz.prog 56 #[.pointer (some ⟨gW, 0, none⟩), .slice a n c, .int .i64 ((dp : Nat) : Int)] w fun e w' => ∃ u, e = .returned u /\ RNp w gW (.slice ap np cp) base vN X ns kp pre (br k x) u w' := by
 have hB := Bl.refl w
 have hW0 := hW
 have hl0 := hl
 replace hl : PAt (KW gW vN (fun b => b < w.heap.size)) w a n c vs _ := hl.old.mono (fun b hb => ⟨hb.1.1, hb.1.2.1, hb.2⟩)
 obtain ⟨gE, oE, a1, n1, c1, a2, n2, c2, k1, x1, ea, hej, hc1, hc2, hs1, hs2⟩ := hl.at (j := 0) (by omega)
 subst ea
 obtain ⟨gE2, oE2, a3, n3, c3, a4, n4, c4, k3, x3, ea, hej3, hc3, hc4, hs3, hs4⟩ := hl.at (j := n - 1) (by omega)
 cases ea
 obtain ⟨e1, he1, rfl, rfl⟩ := Zjm hej
 obtain ⟨e3, he3, rfl, rfl⟩ := Zjm hej3
 have hln : (entsR (br k x)).length = n := by rw [<- Zde pre]; exact hl.ll
 have hfl := Z0f hOb he1 (by rw [hln]; exact he3)
 have hcom : Ni.com (pre ++ e1.1) (pre ++ e3.1) = pre.length := by rw [Zsf, hfl]; omega
 have ls1 : (pre ++ e1.1).length = n1 := hs1.len
 have hb1 := hpl _ (List.mem_of_getElem? (by exact hej))
 simp only at hb1
 have ls3 := hs3.len
 have hb3 := hpl _ (List.mem_of_getElem? (by exact hej3))
 simp only at hb3
 refine Zaj Tryz.func56 rfl 53 rfl ?_
 show CW _ _ _ _ _ _ _ [(0, .pointer (some ⟨gW, 0, none⟩)), (1, .slice (some ⟨gE, oE, none⟩) n c), (2, .int .i64 ((dp : Nat) : Int))] _
 refine Zac <| Zaa <| Zax 6 nz.cells.toArray 68 (fun _ => by kernel_rfl) (fun _ => by kernel_rfl) ?_
 intro w1 g6 hn6
 have h6 : Rw g6 w1 nz.cells.toArray 68 := hn6.row
 have hg6 := hn6.hg
 have hsz6 := hn6.size
 replace hB := hB.go hn6.below
 replace hW := hW.go hn6.below
 have hWX : Wp w1 gW (.slice ap np cp) base vN (fun b => X b /\ b ≠ g6) ns := (hW0.mono (Y := fun b => X b /\ b ≠ g6) (fun b hb hx => ⟨hx, by omega⟩)).go hn6.below
 refine Zad <| Zab <| Zac <| Zaz (fun v => Bl w v) (by kernel_rfl) (hB.drew) ?_
 replace hB := hB.drew
 replace hW := hW.drew
 replace h6 := h6.drew
 replace hWX := hWX.drew
 refine dt 0 10 (.slice (some ⟨gE, oE, none⟩) n c) (fun v hv _ => by kernel_rfl) hB <| dt 1 11 (.pointer (some ⟨gE, oE + 0 * 2, none⟩)) (fun v hv _ => Zau 55 _ _ gE oE 0 n c 2 95 rfl (by kernel_rfl) (by kernel_rfl) (by omega) Tryz.underlying55 (by kernel_rfl)) hB <| dt 2 12 (.pointer (some ⟨gE, oE + 0 * 2, none⟩)) (fun v hv _ => by kernel_rfl) hB <| dt 3 13 (.slice a1 n1 c1) (fun v hv _ => Zah 23 _ _ _ _ rfl (by kernel_rfl) ((Below.cell hv (block_lt_of_cell hc1)).trans hc1) Tryz.underlying23 rfl) hB <| dt 4 14 (.slice (some ⟨gE, oE, none⟩) n c) (fun v hv _ => by kernel_rfl) hB <| dt 5 15 (.slice (some ⟨gE, oE, none⟩) n c) (fun v hv _ => by kernel_rfl) hB <| dt 6 16 (.int .i64 n) (fun v hv _ => by kernel_rfl) hB <| dt 7 17 (.int .i64 ((n : Int) - 1)) (fun v hv => (fun _ => Zag (v := .int .i64 (IntKind.i64.wrap ((n : Int) - 1))) (by kernel_rfl) (congrArg (Value.int .i64) (Zbc (by omega) (by omega))))) hB <| dt 8 18 (.pointer (some ⟨gE, oE + (n - 1) * 2, none⟩)) (fun v hv _ => Zcj (kd := .i64) (i := (n : Int) - 1) 55 _ _ gE oE (n - 1) n c 2 95 rfl (by kernel_rfl) (by kernel_rfl) (by omega) (by omega) Tryz.underlying55 (by kernel_rfl)) hB <| dt 9 19 (.pointer (some ⟨gE, oE + (n - 1) * 2, none⟩)) (fun v hv _ => by kernel_rfl) hB <| dt 10 20 (.slice a3 n3 c3) (fun v hv _ => Zah 23 _ _ _ _ rfl (by kernel_rfl) ((Below.cell hv (block_lt_of_cell hc3)).trans hc3) Tryz.underlying23 rfl) hB <| dt 11 7 (.slice a1 n1 c1) (fun v hv _ => by kernel_rfl) hB ?_
 refine dt 12 8 (.slice a3 n3 c3) (fun v hv _ => by kernel_rfl) hB <| Zas (by kernel_rfl) <| Zab <| Zac <| Zaa <| rp 21 (.slice a1 n1 c1) <| rp 22 (.slice a3 n3 c3) <| Zao 23 81 #[.slice a1 n1 c1, .slice a3 n3 c3] (fun _ => by kernel_rfl) (fun _ => by kernel_rfl) (R := fun u w' => u = .int .i64 ((pre.length : Nat) : Int) /\ Bl (w1.drew) w') (((Ni.common_any _ _ _ _ _ _ (pre ++ e1.1) (pre ++ e3.1) _ (hs1.go hB).ag (hs3.go hB).ag (by omega) (by omega)).mono (fun e w' h => ⟨_, h.1, by rw [hcom], h.2⟩))) ?_
 rintro _ u2 ⟨rfl, hb2⟩
 replace hB := hB.go hb2
 replace hW := hW.go hb2
 replace h6 := h6.go hb2
 replace hWX := hWX.go hb2
 refine rp 9 (.int .i64 ((pre.length : Nat) : Int)) <| Zad <| Zab <| Zac <| Zar <| Zac <| Zaa <| rp 25 (.slice (some ⟨gE, oE, none⟩) n c) <| rp 26 (.int .i64 n) <| rv 27 (.bool false) (fun _ => Zag (v := .bool ((n : Int) == (1 : Int))) (by kernel_rfl) (congrArg Value.bool (beq_eq_false_iff_ne.2 (by omega)))) <| rp 24 (.bool false) <| Zad ?_
 refine Zab <| Zai (fun _ => by kernel_rfl) <| Zac <| Zaa <| rp 37 (.int .i64 ((pre.length : Nat) : Int)) <| rp 38 (.int .i64 ((dp : Nat) : Int)) <| rv 39 (.bool false) (fun _ => Zag (v := .bool (decide (((pre.length : Nat) : Int) > ((dp : Nat) : Int)))) (by kernel_rfl) (congrArg Value.bool (decide_eq_false (by omega)))) <| rp 36 (.bool false) <| Zad <| Zab <| Zai (fun _ => by kernel_rfl) <| Zan ?_
 refine Za0 <| Zab <| Zac <| Zaa <| rp 49 (.pointer (some ⟨gW, 0, none⟩)) <| rp 50 (.slice (some ⟨gE, oE, none⟩) n c) <| rp 51 (.int .i64 ((dp : Nat) : Int)) <| Zao 52 83 #[.pointer (some ⟨gW, 0, none⟩), .slice (some ⟨gE, oE, none⟩) n c, .int .i64 ((dp : Nat) : Int)] (fun _ => by kernel_rfl) (fun _ => by kernel_rfl) (R := RNq (fun b => b ≠ g6) (u2) gW (.slice ap np cp) base vN (fun b => X b /\ b ≠ g6) ns kp pre (br k x)) (hBr (u2) hB (fun b => X b /\ b ≠ g6) hWX (fun b hb => ⟨hX b (Nat.le_trans hB.size hb), fun e => by have hq : g6 < (u2).heap.size := lt_of_get h6; omega⟩) (fun b => b ≠ g6) (fun b hb => by omega) (fun b hb => by have hq : g6 < _ := lt_of_get h6; omega)) ?_
 rintro _ u3 ⟨y, vM, rfl, hNd, hW1, hG⟩
 replace h6 := h6.wgp hG hWX (by decide) (by decide)
 have hGt := (Wg.of_below hB).trans hG
 have hyl := hNd.c.len
 clear hB hW hWX
 refine Zbm g6 y.cells.toArray (fun _ => by kernel_rfl) (fun _ => Za3 68 _ _ _ _ _ _ rfl (by kernel_rfl) (by kernel_rfl) h6 (by rw [Zc1, Zbn hyl]) (by rw [Zbn hyl]; rfl) (Zew _)) ?_
 intro wE hpE
 have hrE : Rw g6 wE y.cells.toArray 68 := hpE.row h6
 have hNE : NodeAt (fun _ => True) wE y (nodeP (br k x)) := hNd.go (fun b hb _ => ⟨hpE.other hb, trivial⟩)
 have hWE := (hW1.put h6 (by decide) (by decide) (fun b hb => hb.2) hpE).mono (fun b _ hb => hb.1)
 have hGE := hGt.put hpE (by omega)
 refine Zad <| Zab <| Zap ?_
 exact Zae (.agg y.cells.toArray) (fun _ => Zci Tryz.results56 _ g6 y hyl (by kernel_rfl) hrE) ⟨_, rfl, y, vM, rfl, hNE, hWE, hGE⟩
end Go.Proofs.YtefhepcplempkaaGreat

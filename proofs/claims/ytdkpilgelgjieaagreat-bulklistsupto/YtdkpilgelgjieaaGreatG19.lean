/- What the document reckons of the paths below a node: how many nibbles all begin with, what lies under a nibble; what a tree in normal form has to do with it. -/
import Derived.Test.YtdkpilgelgjieaaGreatG18
import Derived.Test.YtdkpilgelgjieaaGreatG02
import Derived.Test.YtdkpilgelgjieaaGreatG00
import Derived.Test.YtdkpilgelgjieaaGreatG17
import Derived.Maps.AppendAt
import Derived.Deep.DeepAppendWide
set_option linter.unusedVariables false
set_option maxRecDepth 100000
namespace Go.Proofs.YtdkpilgelgjieaaGreat
open Tr
def onesP (l : PList) : PList := l.map fun e => (Ni.nib e.1, e.2)
def alikeP : PList -> Nat
 | [] => 0
 | e :: r => r.foldl (fun n f => min n (Ni.com e.1 f.1)) e.1.length
def under1 (i : Int) (e : List Int × List Int) : PList := match e.1 with
 | [] => []
 | c :: p => if c = i then [(p, e.2)] else []
def underP (i : Int) (l : PList) : PList := l.flatMap (under1 i)
def withoutP (n : Nat) (l : PList) : PList := l.map fun e => (e.1.drop n, e.2)
def valP (v : List Int) (l : PList) : List Int := l.foldl (fun v e => if e.1 = [] then e.2 else v) v
theorem Rel.ones {t : Tr} {l : PList} (h : Rel t l) : onesP l = entsR t := by
 have he := h.ents
 rcases h.ok with rfl | hO
 ·rw [show entsF [] no = [] from rfl] at he
  subst he
  rfl
 ·rw [<- he, Zpa]
  unfold onesP
  rw [List.map_map]
  have : (entsR t).map ((fun e : List Int × List Int => (Ni.nib e.1, e.2)) ∘ fun e => ((Ni.keyP ([] ++ e.1)).1, e.2)) = (entsR t).map id := by
   refine List.map_congr_left ?_
   rintro ⟨p, x⟩ hm
   obtain ⟨h1, h2, h3⟩ := (Zhj t hO p x).1 hm
   obtain ⟨k, k1, k2, k3⟩ := h.e p h1 (by rw [h2]; exact h3)
   show (Ni.nib (Ni.keyP ([] ++ p)).1, x) = (p, x)
   rw [List.nil_append, k3, Ni.key_nib k1]
  rw [this, List.map_id]
theorem Zk8 : ∀ (t : Tr) {B : Nat}, Tr.Ok B t -> entsR t ≠ [] := by
 intro t
 induction t with
 | no => intro B h; exact h.elim
 | leaf p x => intro B h; simp [entsR]
 | ext p c ih => intro B h; simp only [entsR, ne_eq, List.map_eq_nil_iff]; exact ih h.2.2.2.2
 | br k x ih =>
  intro B h
  obtain ⟨h1, h2⟩ := h
  have key : ∀ i, k i ≠ no -> entsR (br k x) ≠ [] := by
   intro i hi
   rcases h1 i with e | ⟨e1, e2, e3⟩
   ·exact absurd e hi
   ·have := ih i e3
    intro he
    obtain ⟨y, hy⟩ := List.exists_mem_of_ne_nil _ this
    have hm : (((i : Nat) : Int) :: y.1, y.2) ∈ entsR (br k x) := by
     simp only [entsR, List.mem_append, List.mem_flatMap, List.mem_range, List.mem_map]
     exact .inr ⟨i, e1, y, hy, rfl⟩
    rw [he] at hm
    cases hm
  rcases h2 with ⟨i, j, _, hi, _⟩ | ⟨_, i, hi⟩
  ·exact key i hi
  ·exact key i hi
theorem Zk5 {k : Nat -> Tr} {x : List Int} {B i : Nat} (h : Tr.Ok B (br k x)) (hi : k i ≠ no) : ∃ p v, (((i : Nat) : Int) :: p, v) ∈ entsR (br k x) := by
 rcases h.1 i with e | ⟨e1, e2, e3⟩
 ·exact absurd e hi
 ·obtain ⟨y, hy⟩ := List.exists_mem_of_ne_nil _ (Zk8 _ e3)
  refine ⟨y.1, y.2, ?_⟩
  simp only [entsR, List.mem_append, List.mem_flatMap, List.mem_range, List.mem_map]
  exact .inr ⟨i, e1, y, hy, rfl⟩
theorem Zfe {α : Type} (f : α -> Nat) : ∀ (r : List α) (n : Nat), r.foldl (fun n e => min n (f e)) n <= n
 | [], n => Nat.le_refl _
 | a :: r, n => Nat.le_trans (Zfe f r _) (Nat.min_le_left _ _)
theorem Zgw {α : Type} (f : α -> Nat) : ∀ (r : List α) (n : Nat) (a : α), a ∈ r -> r.foldl (fun n e => min n (f e)) n <= f a
 | b :: r, n, a, h => by
  rcases List.mem_cons.1 h with rfl | h
  ·exact Nat.le_trans (Zfe f r _) (Nat.min_le_right _ _)
  ·exact Zgw f r _ a h
theorem Zt7 (l : PList) (h : 0 < alikeP l) : ∃ c : Int, ∀ e ∈ l, ∃ p, e.1 = c :: p := by
 cases l with
 | nil => simp [alikeP] at h
 | cons e r =>
  have h0 : 0 < e.1.length := Nat.lt_of_lt_of_le h (Zfe _ r _)
  obtain ⟨c, p, hc⟩ : ∃ c p, e.1 = c :: p := by
   cases he : e.1 with
   | nil => rw [he] at h0; simp at h0
   | cons c p => exact ⟨c, p, rfl⟩
  refine ⟨c, fun f hf => ?_⟩
  rcases List.mem_cons.1 hf with rfl | hf
  ·exact ⟨p, hc⟩
  ·have h1 : 0 < Ni.com e.1 f.1 := Nat.lt_of_lt_of_le h (Zgw (fun f : List Int × List Int => Ni.com e.1 f.1) r _ f hf)
   cases hq : f.1 with
   | nil => rw [hc, hq] at h1; simp [Ni.com] at h1
   | cons d q =>
    rw [hc, hq] at h1
    simp only [Ni.com] at h1
    by_cases hcd : c = d
    ·subst hcd; exact ⟨q, rfl⟩
    ·rw [if_neg hcd] at h1; omega
theorem Zpp {k : Nat -> Tr} {x : List Int} {B : Nat} (h : Tr.Ok B (br k x)) : alikeP (entsR (br k x)) = 0 := by
 refine Nat.eq_zero_of_not_pos fun h0 => ?_
 obtain ⟨c, hc⟩ := Zt7 _ h0
 have kk : ∀ i, k i ≠ no -> c = ((i : Nat) : Int) := by
  intro i hi
  obtain ⟨p, v, hm⟩ := Zk5 h hi
  obtain ⟨q, hq⟩ := hc _ hm
  injection hq with e _
  exact e.symm
 rcases h.2 with ⟨i, j, hij, hi, hj⟩ | ⟨hx, i, hi⟩
 ·have := kk i hi
  have := kk j hj
  omega
 ·obtain ⟨p, hp⟩ := hc ([], x) (by simp only [entsR]; rw [if_neg hx]; simp)
  cases hp
theorem Zso {α : Type} {l : List α} {a b : α} (ha : a ∈ l) (hb : b ∈ l) (h : a ≠ b) : 2 <= l.length := by
 match l with
 | [] => cases ha
 | [c] =>
  have h1 : a = c := by simpa using ha
  have h2 : b = c := by simpa using hb
  exact absurd (h1.trans h2.symm) h
 | _ :: _ :: _ => simp
theorem Zwo {k : Nat -> Tr} {x : List Int} {B : Nat} (h : Tr.Ok B (br k x)) : 2 <= (entsR (br k x)).length := by
 rcases h.2 with ⟨i, j, hij, hi, hj⟩ | ⟨hx, i, hi⟩
 ·obtain ⟨p, v, hm⟩ := Zk5 h hi
  obtain ⟨q, u, hn⟩ := Zk5 h hj
  exact Zso hm hn (by intro e; injection e with e _; injection e with e _; omega)
 ·obtain ⟨p, v, hm⟩ := Zk5 h hi
  have hn : (([], x) : List Int × List Int) ∈ entsR (br k x) := by simp only [entsR]; rw [if_neg hx]; simp
  exact Zso hm hn (by intro e; injection e with e _; cases e)
theorem Zyl (p a b : List Int) : Ni.com (p ++ a) (p ++ b) = p.length + Ni.com a b := by
 induction p with
 | nil => simp
 | cons c p ih => simp only [List.cons_append, Ni.com, if_pos, ih, List.length_cons]; omega
theorem Zgx {α : Type} (f : α -> Nat) (d : Nat) : ∀ (r : List α) (n : Nat), r.foldl (fun n e => min n (d + f e)) (d + n) = d + r.foldl (fun n e => min n (f e)) n
 | [], n => rfl
 | a :: r, n => by
  simp only [List.foldl_cons]
  rw [show min (d + n) (d + f a) = d + min n (f a) from by omega]
  exact Zgx f d r _
theorem Zt8 (p : List Int) (l : PList) (h : l ≠ []) : alikeP (l.map fun e => (p ++ e.1, e.2)) = p.length + alikeP l := by
 cases l with
 | nil => exact absurd rfl h
 | cons e r =>
  simp only [List.map_cons, alikeP, List.foldl_map, List.length_append, Zyl]
  exact Zgx (fun f : List Int × List Int => Ni.com e.1 f.1) p.length r e.1.length
theorem Zt9 {p : List Int} {c : Tr} {B : Nat} (h : Tr.Ok B (ext p c)) : alikeP (entsR (ext p c)) = p.length := by
 obtain ⟨h1, h2, h3, h4, h5⟩ := h
 cases c with
 | br k x =>
  show alikeP ((entsR (br k x)).map fun e => (p ++ e.1, e.2)) = _
  rw [Zt8 p _ (Zk8 _ h5), Zpp h5]
  omega
 | _ => cases h4
theorem Zxy {p : List Int} {c : Tr} {B : Nat} (h : Tr.Ok B (ext p c)) : 2 <= (entsR (ext p c)).length := by
 obtain ⟨h1, h2, h3, h4, h5⟩ := h
 cases c with
 | br k x =>
  show 2 <= ((entsR (br k x)).map fun e => (p ++ e.1, e.2)).length
  rw [List.length_map]
  exact Zwo h5
 | _ => cases h4
theorem Zm1 (p : List Int) (c : Tr) : withoutP p.length (entsR (ext p c)) = entsR c := by
 show ((entsR c).map fun e => (p ++ e.1, e.2)).map (fun e => (e.1.drop p.length, e.2)) = _
 rw [List.map_map]
 have : (entsR c).map ((fun e : List Int × List Int => (e.1.drop p.length, e.2)) ∘ fun e => (p ++ e.1, e.2)) = (entsR c).map id := by
  refine List.map_congr_left ?_
  rintro ⟨q, x⟩ _
  show ((p ++ q).drop p.length, x) = (q, x)
  rw [List.drop_left]
 rw [this, List.map_id]
theorem Zo6 {α : Type} (X : List α) (i : Nat) : ∀ n : Nat, (List.range n).flatMap (fun j => if j = i then X else []) = if i < n then X else []
 | 0 => by simp
 | n + 1 => by
  rw [List.range_succ, List.flatMap_append, Zo6 X i n, List.flatMap_singleton]
  by_cases h1 : i < n
  ·rw [if_pos h1, if_neg (by omega), if_pos (by omega), List.append_nil]
  ·rw [if_neg h1, List.nil_append]
   by_cases h2 : n = i
   ·rw [if_pos h2, if_pos (by omega)]
   ·rw [if_neg h2, if_neg (by omega)]
theorem Zrb (i j : Nat) (l : PList) : (l.map fun e => (((j : Nat) : Int) :: e.1, e.2)).flatMap (under1 ((i : Nat) : Int)) = if j = i then l else [] := by
 induction l with
 | nil => simp
 | cons e r ih =>
  rw [List.map_cons, List.flatMap_cons, ih]
  simp only [under1]
  by_cases h : j = i
  ·subst h; simp
  ·rw [if_neg (show ¬((j : Nat) : Int) = ((i : Nat) : Int) from by omega), if_neg h, if_neg h]; rfl
theorem Zg7 (k : Nat -> Tr) (x : List Int) {i : Nat} (hi : i < 16) : underP ((i : Nat) : Int) (entsR (br k x)) = entsR (k i) := by
 unfold underP
 simp only [entsR]
 rw [List.flatMap_append, List.flatMap_assoc]
 rw [Zdi (fun j => ((entsR (k j)).map fun e => (((j : Nat) : Int) :: e.1, e.2)).flatMap (under1 ((i : Nat) : Int))) (fun j => if j = i then entsR (k i) else []) (List.range 16) (fun j _ => by
  show _ = _
  rw [Zrb]
  by_cases h : j = i
  ·subst h; rfl
  ·rw [if_neg h, if_neg h]), Zo6, if_pos hi]
 by_cases hx : x = []
 ·rw [if_pos hx]; rfl
 ·rw [if_neg hx]; rfl
theorem Zkm : ∀ (l : PList) (v : List Int), (∀ e ∈ l, e.1 ≠ []) -> valP v l = v
 | [], v, _ => rfl
 | e :: r, v, h => by
  unfold valP
  rw [List.foldl_cons, if_neg (h e (by simp))]
  exact Zkm r v (fun f hf => h f (List.mem_cons_of_mem _ hf))
theorem Zy0 (k : Nat -> Tr) (x : List Int) : valP [] (entsR (br k x)) = x := by
 have h2 : ∀ e ∈ (List.range 16).flatMap fun i => (entsR (k i)).map fun e => (((i : Nat) : Int) :: e.1, e.2), e.1 ≠ [] := by
  intro e he
  obtain ⟨i, _, h⟩ := List.mem_flatMap.1 he
  obtain ⟨f, _, rfl⟩ := List.mem_map.1 h
  simp
 simp only [entsR]
 by_cases hx : x = []
 ·rw [if_pos hx, List.nil_append, Zkm _ _ h2, hx]
 ·rw [if_neg hx]
  show valP [] (([], x) :: _) = x
  unfold valP
  rw [List.foldl_cons, if_pos rfl]
  exact Zkm _ _ h2
end Go.Proofs.YtdkpilgelgjieaaGreat
namespace Go.Proofs.YtdkpilgelgjieaaGreat
open Go.RowKit
open Tr
def OwnN (X : Nat -> Prop) (w : World) (base : Nat) (v : Value) (l : PList) : Prop := (∀ b, base <= b -> X b) /\ ∃ vs : List (Value × Value), vs.length = l.length /\ w.ownsRow base 67 2 v l.length (flatP vs) /\ ∀ (j : Nat) (p : Value × Value) (e : List Int × List Int), vs[j]? = some p -> l[j]? = some e -> Gp2 (fun b => v.ownBlock ≠ some b /\ X b) w p e
theorem OwnN.pat {X : Nat -> Prop} {w : World} {base : Nat} {v : Value} {l : PList} (h : OwnN X w base v l) : ∃ a c vs, v = .slice a l.length c /\ PAt X w a l.length c vs l := by
 obtain ⟨hX, vs, h1, ⟨h2, h3⟩, h4⟩ := h
 rcases h3 with ⟨rfl, h5⟩ | ⟨g, cap, cur, rfl, hbg, hg, hc1, hc2, hc3, hc4⟩
 ·refine ⟨none, 0, vs, by rw [h5], h1, rfl, by omega, fun _ => ⟨h5, rfl⟩, fun j u hj => ?_, fun j p e q1 q2 => (h4 j p e q1 q2).mono (fun _ h => h.2), fun x hx => by cases hx⟩
  have : vs = [] := List.eq_nil_of_length_eq_zero (by omega)
  subst this; simp [flatP] at hj
 ·refine ⟨some ⟨g, 0, none⟩, cap, vs, rfl, h1, rfl, hc1, (fun e => by cases e), fun j u hj => ⟨g, 0, rfl, ?_⟩, fun j p e q1 q2 => (h4 j p e q1 q2).mono (fun _ h => h.2), fun x hx _ => by cases hx; exact hX _ hbg⟩
  rw [cell_of_row _ _ _ _ _ _ hg, Nat.zero_add]
  have hlt : j < (flatP vs).length := (List.getElem?_eq_some_iff.1 hj).1
  rw [Zdv, h1] at hlt
  rw [<- hc4, List.getElem?_take_of_lt (by omega)] at hj
  rw [<- Array.getElem?_toList]; exact hj
theorem Zzr : ∃ i, Tryz.prog.info? 67 = some i /\ i.zero = some (.agg #[.slice none 0 0, .slice none 0 0]) /\ i.size = 2 /\ i.bytes = 48 := by
 have h : (Tryz.prog.info? 67).map (fun i => (i.zero, i.size, i.bytes)) = some (some (.agg #[.slice none 0 0, .slice none 0 0]), 2, 48) := by kernel_rfl
 cases hq : Tryz.prog.info? 67 with
 | none => rw [hq] at h; simp at h
 | some i => rw [hq] at h; simp at h; exact ⟨i, rfl, h.1, h.2.1, h.2.2⟩
theorem OwnN.far {X : Nat -> Prop} {w w' : World} {base : Nat} {v : Value} {l : PList} (h : OwnN X w base v l) (hb : Below w.heap.size w w') : OwnN X w' base v l := by
 obtain ⟨hX, vs, h1, ⟨h2, h3⟩, h4⟩ := h
 refine ⟨hX, vs, h1, ⟨h2, ?_⟩, fun j p e q1 q2 => (h4 j p e q1 q2).go hb⟩
 rcases h3 with q | ⟨g, cap, cur, e1, e2, e3, e4⟩
 ·exact .inl q
 ·exact .inr ⟨g, cap, cur, e1, e2, (hb.block g (lt_of_get e3)).trans e3, e4⟩
theorem OwnN.own {X : Nat -> Prop} {w : World} {base : Nat} {v : Value} {l : PList} (h : OwnN X w base v l) : ∀ k, v.ownBlock = some k -> base <= k /\ k < w.heap.size := by
 obtain ⟨hX, vs, h1, ⟨h2, h3⟩, h4⟩ := h
 intro k hk
 rcases h3 with ⟨rfl, _⟩ | ⟨g, cap, cur, rfl, hbg, hg, _⟩
 ·cases hk
 ·have e : g = k := by simpa [Value.ownBlock] using hk
  subst e
  exact ⟨hbg, lt_of_get hg⟩
theorem appN {X : Nat -> Prop} {w : World} {base : Nat} {v : Value} {l : PList} (hown : OwnN X w base v l) {K : Nat -> Prop} {a : Option Addr} {m c : Nat} {vs' : List (Value × Value)} {l' : PList} (h : PAt K w a m c vs' l') (hK : ∀ b, K b -> v.ownBlock ≠ some b /\ X b) (hlen : l.length + m <= 2932031007400) (hbase : base <= w.heap.size) :
  ∃ v' w', (∀ ty, (Builtin.append_ #[65, 65] ty #[v, .slice a m c]).run Tryz.prog w = .ok v' w') /\ OwnN X w' base v' (l ++ l') /\ Below base w w' := by
 obtain ⟨i, hi, hz, hsz, hby⟩ := Zzr
 have hOw := hown.own
 obtain ⟨hX, vs, h1, h2, h4⟩ := id hown
 cases a with
 | none =>
  obtain ⟨rfl, rfl⟩ := h.nil rfl
  have hn0 : l' = [] := List.eq_nil_of_length_eq_zero h.ll
  subst hn0
  exact ⟨v, w, fun ty => run_append_owned_none w base 65 ty 67 i 2 Tryz.underlying65 hi v _ _ h2, by rw [List.append_nil]; exact hown, Below.refl _ _⟩
 | some ad =>
  have hc : ∀ j u, (flatP vs')[j]? = some u -> w.cell? (ad.add j) = some u := by
   intro j u hj
   obtain ⟨g, off, e1, e2⟩ := h.row j u hj
   cases e1
   rw [Zax]; exact e2
  have hone : ∀ u ∈ flatP vs', u.oneCell' = true := by
   intro u hu
   obtain ⟨p, hp, hup⟩ := List.mem_flatMap.1 hu
   obtain ⟨j, hj, e⟩ := List.mem_iff_getElem.1 hp
   have hjl : j < l'.length := by rw [h.ll, <- h.vl]; exact hj
   obtain ⟨a1, n1, c1, a2, n2, c2, q1, q2, _, _⟩ := h.gd j p l'[j] (by rw [List.getElem?_eq_getElem hj, e]) (List.getElem?_eq_getElem hjl)
   simp at hup
   rcases hup with q | q
   ·rw [q, q1]; rfl
   ·rw [q, q2]; rfl
  obtain ⟨v', w', r1, r2, r3, _, r5⟩ := run_append_own_at w base 65 0 67 i _ 2 48 Tryz.underlying65 hi hz hsz hby rfl (by decide) v l.length (flatP vs) h2 ad m c (flatP vs') (by rw [Zdv, h.vl]) hc hone (by unfold maxLen; omega) (by omega) hbase
  have hkeep : ∀ {K' : Nat -> Prop} {p : Value × Value} {e : List Int × List Int}, (∀ b, K' b -> v.ownBlock ≠ some b /\ X b) -> Gp2 K' w p e -> Gp2 (fun b => v'.ownBlock ≠ some b /\ X b) w' p e := by
   intro K' p e hK' hg
   obtain ⟨a1, n1, c1, a2, n2, c2, q1, q2, q3, q4⟩ := hg
   have hsk : ∀ {a : Option Addr} {n c : Nat} {bs : List Int}, Sk K' w a n c bs -> Sk (fun b => v'.ownBlock ≠ some b /\ X b) w' a n c bs := by
    intro a n c bs hs
    refine ⟨⟨?_, hs.ag.nil, hs.ag.l, hs.ag.b⟩, fun x hx hn => ?_⟩
    ·rcases hs.ag.i with q | ⟨gb, off, q1, q2, q3, q4, q5, q7⟩
     ·exact .inl q
     ·refine .inr ⟨gb, off, q1, q2, q3, q4, q5, fun j hj => ?_⟩
      rw [<- q7 j hj]
      exact World.cell?_of_block (r3.block gb (block_lt_of_cell (q7 j hj)) (fun e => (hK' _ (hs.k _ q1 q3)).1 e.symm))
    ·refine ⟨?_, (hK' _ (hs.k x hx hn)).2⟩
     rcases r5 with q | q
     ·rw [q]; exact (hK' _ (hs.k x hx hn)).1
     ·rw [q]; intro e; have := hs.old hx hn; simp at e; omega
   exact ⟨a1, n1, c1, a2, n2, c2, q1, q2, hsk q3, hsk q4⟩
  refine ⟨v', w', fun ty => r1, ⟨hX, vs ++ vs', by simp [h1, h.vl, h.ll], ?_, ?_⟩, ?_⟩
  ·rw [List.length_append, h.ll, Zmk]; exact r2
  ·intro j p e q1 q2
   by_cases hj : j < vs.length
   ·rw [List.getElem?_append_left hj] at q1
    rw [List.getElem?_append_left (by omega)] at q2
    exact hkeep (fun b hb => hb) (h4 j p e q1 q2)
   ·rw [List.getElem?_append_right (by omega)] at q1
    rw [List.getElem?_append_right (by omega), <- h1] at q2
    exact hkeep hK (h.gd _ p e q1 q2)
  ·exact (Below.refl _ _).grown r3 hbase (fun k hk => (hOw k hk).1)
theorem PAt.oneN {K : Nat -> Prop} {w w' : World} {g : Nat} {a a' : Option Addr} {n c n' c' : Nat} {k x : List Int} (h : New w w' g #[.slice a n c, .slice a' n' c'] 67) (h1 : Sk K w a n c k) (h2 : Sk K w a' n' c' x) (hKg : K g) : PAt K w' (some ⟨g, 0, none⟩) 1 1 [(.slice a n c, .slice a' n' c')] [(k, x)] := by
 refine ⟨rfl, rfl, Nat.le_refl _, (fun e => by cases e), fun j u hj => ⟨g, 0, rfl, ?_⟩, (fun j p e q1 q2 => ?_), fun x hx _ => by cases hx; exact hKg⟩
 ·rw [cell_of_row _ _ _ _ _ _ h.row, Nat.zero_add]
  match j, hj with
  | 0, hj => exact hj
  | 1, hj => exact hj
  | j + 2, hj => simp [flatP] at hj
 ·match j, q1, q2 with
  | 0, q1, q2 =>
   simp at q1 q2
   subst q1 q2
   exact ⟨a, n, c, a', n', c', rfl, rfl, h1.go h.below, h2.go h.below⟩
  | j + 1, q1, _ => simp at q1
theorem OwnN.nil {X : Nat -> Prop} {w : World} (hX : ∀ b, w.heap.size <= b -> X b) : OwnN X w w.heap.size (.slice none 0 0) [] := ⟨hX, [], rfl, ⟨rfl, .inl ⟨rfl, rfl⟩⟩, fun j p e h => by simp at h⟩
theorem Zkz {w w' : World} {v u r : Value} {ρ : Operand -> Value} {o : Oper} (hr : ∀ ty, (Builtin.append_ #[65, 65] ty #[v, u]).run Tryz.prog w = .ok r w') (x y : Operand) (ho : o.op = .call { callee := .builtin .append, args := #[x, y], argTypes := #[65, 65] }) (hx : ρ x = v) (hy : ρ y = u) : (execOp ρ o).run Tryz.prog w = .ok (.value r) w' := by
 unfold execOp
 simp only [ho, resolve, invoke, builtin, Sem.run_bind, Sem.run_pure, Result.andThen_ok, List.map_toArray, List.map_cons, List.map_nil, hx, hy, hr]
theorem Zxg {K : Nat -> Prop} {w : World} {a : Option Addr} {n c : Nat} {k : List Int} (h : Sk K w a n c k) (hn : n <= 1000000) :
  Calls Tryz.prog 36 #[.slice a n c] w fun e w' => ∃ u, e = .returned u /\ (∃ a' m' c', u = .slice a' m' c' /\ Sk (fun b => w.heap.size <= b) w' a' m' c' (Ni.nib k)) /\ Bl w w' :=
 (Ni.rof_any a n c k w h.ag (by omega)).mono (fun e w' ⟨⟨a', c', e1, h1, h2, h3, h4⟩, hb⟩ => ⟨_, e1, ⟨a', _, c', rfl, ⟨h3, fun x hx hn => by
  rcases h3.i with ⟨q, _⟩ | ⟨g, off, q, _⟩
  ·omega
  ·rw [q] at hx
   cases hx
   exact h4 (by omega) g off q⟩⟩, hb⟩)
end Go.Proofs.YtdkpilgelgjieaaGreat
namespace Go.Proofs.YtdkpilgelgjieaaGreat.Ni
open Go.RowKit
set_option maxHeartbeats 1000000 in
theorem rcommon_any (a1 a2 : Option Addr) (n1 c1 n2 c2 : Nat) (p q : List Int) (w : World) (h1 : Ag w a1 n1 c1 p) (h2 : Ag w a2 n2 c2 q) (hn1 : n1 <= 140737488355328) (hn2 : n2 <= 140737488355328) :
  Calls Tryz.prog 53 #[.slice a1 n1 c1, .slice a2 n2 c2] w fun e w' => e = .returned (.int .i64 (com p q : Nat)) /\ Below w.heap.size w w' := by
 have HL1 := Hid.mk h1.l
 have HL2 := Hid.mk h2.l
 have HC1 := Hid.mk (fun h => ag_head h1 h)
 have HC2 := Hid.mk (fun h => ag_head h2 h)
 clear h1 h2
 obtain ⟨res, hres⟩ : ∃ r, com p q = r := ⟨_, rfl⟩
 rw [hres]
 have HRES := Hid.mk hres
 clear hres
 go_enter Tryz.func53, Tryz.ntmps53
 go_wp2_with fail
 go_loopw [5] (fun i v => ∃ j : Nat, j <= n1 /\ j <= n2 /\ i = .int .i64 j /\ p.take j = q.take j /\ Below w.heap.size w v) (fun i _ => n1 - (intOf i).toNat)
 case atStart => exact ⟨0, by omega, by omega, rfl, rfl, Below.refl _ _⟩
 case round =>
  obtain ⟨j, hj1, hj2, rfl, htk, hb⟩ := hrel
  have HTK := Hid.mk htk
  have HBW := Hid.mk hb
  clear htk hb
  have HD : Hid ((j = p.length \/ j = q.length \/ p.getD j 0 ≠ q.getD j 0) -> res = j) := Hid.mk (fun h => HRES.out.symm.trans (Zlc p q j (by have := HL1.out; omega) (by have := HL2.out; omega) HTK.out h))
  by_cases hlt1 : j < n1
  case neg =>
   have hji : ¬ (j : Int) < n1 := by omega
   have e := HD.out (.inl (by have := HL1.out; omega))
   subst e
   go_wp2_with fail
   go_region
   all_goals
    go_wp2_with fail
    go_ret
    exact ⟨rfl, HBW.out.drew⟩
  have hji1 : (j : Int) < n1 := by omega
  by_cases hlt2 : j < n2
  case neg =>
   have hji : ¬ (j : Int) < n2 := by omega
   have e := HD.out (.inr (.inl (by have := HL2.out; omega)))
   subst e
   go_wp2_with fail
   go_region
   all_goals
    go_wp2_with fail
    go_ret
    exact ⟨rfl, HBW.out.drew⟩
  have hji2 : (j : Int) < n2 := by omega
  obtain ⟨g1, o1, rfl, hnc1, hcm1, hcs1⟩ := HC1.out (by omega)
  obtain ⟨g2, o2, rfl, hnc2, hcm2, hcs2⟩ := HC2.out (by omega)
  unfold maxLen at hcm1 hcm2
  have hcell1 := (HBW.out.cell (p := ⟨g1, o1 + j, none⟩) (block_lt_of_cell (hcs1 j hlt1))).trans (hcs1 j hlt1)
  have hcell2 := (HBW.out.cell (p := ⟨g2, o2 + j, none⟩) (block_lt_of_cell (hcs2 j hlt2))).trans (hcs2 j hlt2)
  have HT1 := Hid.mk (take_snoc (b := p) (i := j) (by have := HL1.out; omega))
  have HT2 := Hid.mk (take_snoc (b := q) (i := j) (by have := HL2.out; omega))
  generalize p.getD j 0 = x at *
  generalize q.getD j 0 = y at *
  clear hcs1 hcs2
  by_cases hxy : x = y
  ·subst hxy
   have hq : (x == x) = true := by simp
   go_wp2_with fail
   go_region
   all_goals
    go_wp2_with fail
    exact ⟨⟨j + 1, by omega, by omega, by simp, by rw [HT1.out, HT2.out, HTK.out], HBW.out.drew⟩, by simp [intOf]; omega⟩
  ·have e := HD.out (.inr (.inr hxy))
   subst e
   have hq : (x == y) = false := by simpa using hxy
   clear hxy
   go_wp2_with fail
   go_region
   all_goals
    go_wp2_with fail
    go_ret
    exact ⟨rfl, HBW.out.drew⟩
end Go.Proofs.YtdkpilgelgjieaaGreat.Ni
namespace Go.Proofs.YtdkpilgelgjieaaGreat
open Go.RowKit
open Tr
theorem Zfu {α β : Type} (f : α -> β) (l : List α) (j : Nat) (e : α) (h : l[j]? = some e) : (l.take (j + 1)).map f = (l.take j).map f ++ [f e] := by
 rw [List.take_add_one, h, List.map_append]
 rfl
theorem Znx {l : PList} {e : List Int × List Int} (h : l[0]? = some e) : alikeP (l.take 1) = e.1.length := by
 cases l with
 | nil => simp at h
 | cons f r =>
  have : f = e := by simpa using h
  subst this
  rfl
theorem Zqy {l : PList} {e f : List Int × List Int} {j : Nat} (h0 : l[0]? = some e) (hj : l[j]? = some f) (h1 : 1 <= j) : alikeP (l.take (j + 1)) = min (alikeP (l.take j)) (Ni.com e.1 f.1) := by
 cases l with
 | nil => simp at h0
 | cons g r =>
  have : g = e := by simpa using h0
  subst this
  obtain ⟨i, rfl⟩ : ∃ i, j = i + 1 := ⟨j - 1, by omega⟩
  have hi : r[i]? = some f := by simpa using hj
  rw [List.take_succ_cons, List.take_succ_cons, List.take_add_one, hi]
  simp only [alikeP, Option.toList_some, List.foldl_append, List.foldl_cons, List.foldl_nil]
def filt1 (i : Int) (e : List Int × List Int) : PList := match e.1 with
 | [] => []
 | y :: _ => if y = i then [e] else []
def filtP (i : Int) (l : PList) : PList := l.flatMap (filt1 i)
theorem Zgi (i : Int) : ∀ l : PList, withoutP 1 (filtP i l) = underP i l
 | [] => rfl
 | (k, x) :: r => by
  have ih := Zgi i r
  unfold withoutP filtP underP at ih ⊢
  rw [List.flatMap_cons, List.flatMap_cons, List.map_append, ih]
  congr 1
  cases k with
  | nil => rfl
  | cons y p => simp only [filt1, under1]; split <;> rfl
theorem Zs9 {l : PList} {e : List Int × List Int} {j : Nat} (i : Int) (hj : l[j]? = some e) : filtP i (l.take (j + 1)) = filtP i (l.take j) ++ filt1 i e := by
 unfold filtP
 rw [List.take_add_one, hj, List.flatMap_append]
 simp
theorem Zhk (i : Int) : ∀ l : PList, (filtP i l).length <= l.length
 | [] => Nat.le_refl _
 | e :: r => by
  have := Zhk i r
  have h1 : (filt1 i e).length <= 1 := by unfold filt1; split; simp; split <;> simp
  unfold filtP at this ⊢
  rw [List.flatMap_cons, List.length_append, List.length_cons]
  omega
theorem Zvi {i : Int} {l : PList} {j : Nat} {k x : List Int} (h : (filtP i l)[j]? = some (k, x)) : 1 <= k.length := by
 have := List.mem_of_getElem? h
 obtain ⟨e, _, he⟩ := List.mem_flatMap.1 this
 obtain ⟨q, y⟩ := e
 cases q with
 | nil => simp [filt1] at he
 | cons z p =>
  simp only [filt1] at he
  split at he
  ·simp at he; rw [he.1]; simp
  ·simp at he
theorem rng2D {w : World} {g o : Nat} {u v : Value} (h1 : w.cell? ⟨g, o, none⟩ = some u) (h2 : w.cell? ⟨g, o + 1, none⟩ = some v) : w.rangeAt g o [u, v] := fun m x hm => by
 match m, hm with
 | 0, hm => cases hm; exact h1
 | 1, hm => cases hm; exact h2
 | m + 2, hm => simp at hm
set_option maxHeartbeats 2000000 in
theorem Zph {K : Nat -> Prop} {w : World} {a : Option Addr} {n c : Nat} {vs : List (Value × Value)} {l : PList} (hl : PAt K w a n c vs l) (hb : n <= 2932031007400) {d : Nat} (hd : ∀ (j : Nat) k x, l[j]? = some (k, x) -> d <= k.length) :
  Calls Tryz.prog 63 #[.slice a n c, .int .i64 ((d : Nat) : Int)] w fun e w' => ∃ u, e = .returned u /\ (fun u w' => (∃ a' m' c' vs', u = .slice a' m' c' /\ PAt (fun b => K b \/ w.heap.size <= b) w' a' m' c' vs' (withoutP d l)) /\ Bl w w') u w' := by
 have hB := Bl.refl w
 have ll := hl.ll
 have hl0 := hl.old
 refine Za3 Tryz.func63 rfl 30 rfl ?_
 show CW _ _ _ _ _ _ _ [(0, .slice a n c), (1, .int .i64 ((d : Nat) : Int))] _
 refine Zac <| Zaa <| rp 4 (.slice none 0 0) <| Zad <| Zab <| Zac <| Zaa <| rp 5 (.slice none 0 0) <| Zad <| Zab <| Zac <| Zac ?_
 refine Zaa <| rp 6 (.int .i64 0) <| Zad <| Zab <| Zay <| Zdj (X := Nat × Value) (fun z => [(6, .int .i64 ((z.1 : Nat) : Int)), (5, z.2), (0, .slice a n c), (1, .int .i64 ((d : Nat) : Int))]) (fun z v => Bl w v /\ OwnN (fun b => K b \/ w.heap.size <= b) v w.heap.size z.2 ((l.take z.1).map (fun e : List Int × List Int => (e.1.drop d, e.2))) /\ z.1 <= n) (fun z => n - z.1) (0, .slice none 0 0) (by exact ⟨fun _ => by kernel_rfl, ⟨fun _ => by kernel_rfl, ⟨fun _ => by kernel_rfl, ⟨fun _ => by kernel_rfl, trivial⟩⟩⟩⟩) ⟨hB, by rw [List.take_zero]; exact OwnN.nil (fun b hb => .inr hb), Nat.zero_le _⟩ ?_
 clear hB
 rintro ⟨j, V⟩ v ⟨hB, hO, hj⟩
 simp only at hB hO hj
 show CW _ _ _ _ _ _ _ [(6, .int .i64 ((j : Nat) : Int)), (5, V), (0, .slice a n c), (1, .int .i64 ((d : Nat) : Int))] _
 by_cases hlt : j < n
 ·skip
  obtain ⟨gE, oE, a1, n1, c1, a2, n2, c2, k, x, ea, hej, hc1, hc2, hs1, hs2⟩ := hl0.at hlt
  subst ea
  have lk := hs1.len
  have hdl := hd j k x hej
  refine Zac <| Zac <| Zaa <| rp 7 (.int .i64 ((j : Nat) : Int)) <| rp 8 (.slice (some ⟨gE, oE, none⟩) n c) <| rp 9 (.int .i64 n) <| rv 10 (.bool true) (fun _ => Zai (v := .bool (decide (((j : Nat) : Int) < (n : Int)))) (by kernel_rfl) (congrArg Value.bool (decide_eq_true (by omega)))) <| Zad <| Zab <| Zan (fun _ => by kernel_rfl) <| Zaz <| Zab ?_
  refine Zac <| Zay ?_
  obtain ⟨a6, n6, c6, hr7, hs7⟩ := hs1.cutFrom d (by omega)
  refine Zcb (fun v => Bl w v) (by kernel_rfl) (hB.drew) ?_
  replace hB := hB.drew
  replace hO := hO.far (Below.refl _ _).drew
  refine dt 0 13 (V) (fun v hv _ => by kernel_rfl) hB <| dt 1 14 (.slice (some ⟨gE, oE, none⟩) n c) (fun v hv _ => by kernel_rfl) hB <| dt 2 15 (.int .i64 ((j : Nat) : Int)) (fun v hv _ => by kernel_rfl) hB <| dt 3 16 (.pointer (some ⟨gE, oE + j * 2, none⟩)) (fun v hv _ => Zas 65 _ _ gE oE j n c 2 67 rfl (by kernel_rfl) (by kernel_rfl) hlt Tryz.underlying65 (by kernel_rfl)) hB <| dt 4 17 (.pointer (some ⟨gE, oE + j * 2, none⟩)) (fun v hv _ => by kernel_rfl) hB <| dt 5 18 (.slice a1 n1 c1) (fun v hv _ => Zam 32 _ _ _ _ rfl (by kernel_rfl) ((Below.cell hv (block_lt_of_cell hc1)).trans hc1) Tryz.underlying32 rfl) hB <| dt 6 19 (.int .i64 ((d : Nat) : Int)) (fun v hv _ => by kernel_rfl) hB <| dt 7 20 (.slice a6 n6 c6) (fun v hv _ => hr7 _ _ _ _ _ _ rfl (by kernel_rfl) (by kernel_rfl) rfl) hB <| dt 8 21 (.slice (some ⟨gE, oE, none⟩) n c) (fun v hv _ => by kernel_rfl) hB <| dt 9 22 (.int .i64 ((j : Nat) : Int)) (fun v hv _ => by kernel_rfl) hB <| dt 10 23 (.pointer (some ⟨gE, oE + j * 2, none⟩)) (fun v hv _ => Zas 65 _ _ gE oE j n c 2 67 rfl (by kernel_rfl) (by kernel_rfl) hlt Tryz.underlying65 (by kernel_rfl)) hB <| dt 11 24 (.pointer (some ⟨gE, oE + j * 2 + 1, none⟩)) (fun v hv _ => by kernel_rfl) hB ?_
  refine dt 12 25 (.slice a2 n2 c2) (fun v hv _ => Zam 32 _ _ _ _ rfl (by kernel_rfl) ((Below.cell hv (block_lt_of_cell hc2)).trans hc2) Tryz.underlying32 rfl) hB <| dt 13 26 (.agg #[.slice a6 n6 c6, .slice a2 n2 c2]) (fun v hv => (fun _ => by kernel_rfl)) hB <| Zah [14] (by kernel_rfl) (by simp) ?_
  have hOw := hO.own
  have hwz := hB.size
  have hs6 := (hs7.go hB).mono (K' := fun b => (K b /\ b < w.heap.size) \/ v.drew.heap.size <= b) (fun b hb => .inl hb)
  refine Zgm 14 27 #[.slice a6 n6 c6, .slice a2 n2 c2] 67 1 rfl (fun _ => by kernel_rfl) (fun _ => by kernel_rfl) (fun w' g h => hB.go h.below) ?_ Zar
  intro wN gN hnN
  have hP1 := PAt.oneN hnN hs6 ((hs2.go hB).mono (K' := fun b => (K b /\ b < w.heap.size) \/ v.drew.heap.size <= b) (fun b hb => .inl hb)) (by have := hnN.hg; exact .inr (by omega))
  replace hB := hB.go hnN.below
  replace hO := hO.far hnN.below
  refine Zah [15] (by kernel_rfl) (by simp) ?_
  obtain ⟨V2, wQ, hrQ, hOQ, hbQ⟩ := appN hO hP1 (fun b hb => ⟨fun e => by have := hOw b e; rcases hb with h | h <;> omega, by rcases hb with h | h; exact .inl h.1; exact .inr (by omega)⟩) (by rw [List.length_map, List.length_take]; omega) hB.size
  refine ar_v 15 28 V2 rfl (fun _ => by kernel_rfl) (fun _ => Zkz hrQ _ _ rfl (by kernel_rfl) (by kernel_rfl)) (Below.trans hB hbQ) ?_ Zar
  replace hB : Bl w wQ := Below.trans hB hbQ
  replace hO := hOQ
  refine dt 16 5 (V2) (fun v hv _ => by kernel_rfl) hB <| Zbn (by kernel_rfl) <| Zbb <| Zab <| Zaa <| rp 11 (.int .i64 ((j : Nat) : Int)) <| rv 12 (.int .i64 (((j : Nat) : Int) + 1)) (fun _ => Zai (v := .int .i64 (IntKind.i64.wrap (((j : Nat) : Int) + 1))) (by kernel_rfl) (congrArg (Value.int .i64) (Zb6 (by omega) (by omega)))) <| rp 6 (.int .i64 (((j : Nat) : Int) + 1)) <| Zad ?_
  exact Zbi (E := fun z => [(6, .int .i64 ((z.1 : Nat) : Int)), (5, z.2), (0, .slice (some ⟨gE, oE, none⟩) n c), (1, .int .i64 ((d : Nat) : Int))]) (R := fun z v => Bl w v /\ OwnN (fun b => K b \/ w.heap.size <= b) v w.heap.size z.2 ((l.take z.1).map (fun e : List Int × List Int => (e.1.drop d, e.2))) /\ z.1 <= n) (μ := fun z => n - z.1) (x := (j, V)) (j + 1, V2) (by exact ⟨fun _ => by kernel_rfl, ⟨fun _ => by kernel_rfl, ⟨fun _ => by kernel_rfl, ⟨fun _ => by kernel_rfl, trivial⟩⟩⟩⟩) ⟨hB, by show OwnN _ _ _ _ ((l.take (j + 1)).map _); rw [Zfu _ l j _ hej]; exact hO, by show j + 1 <= n; omega⟩ (by show n - (j + 1) < n - j; omega)
 obtain rfl : j = n := by omega
 rw [List.take_of_length_le (by omega)] at hO
 show CW _ _ _ _ _ _ _ [(6, .int .i64 ((j : Nat) : Int)), (5, V), (0, .slice a j c), (1, .int .i64 ((d : Nat) : Int))] _
 refine Zac <| Zac <| Zaa <| rp 7 (.int .i64 ((j : Nat) : Int)) <| rp 8 (.slice a j c) <| rp 9 (.int .i64 j) <| rv 10 (.bool false) (fun _ => Zai (v := .bool (decide (((j : Nat) : Int) < (j : Int)))) (by kernel_rfl) (congrArg Value.bool (decide_eq_false (by omega)))) <| Zad <| Zab <| Zao (fun _ => by kernel_rfl) <| Zd5 <| Zat ?_
 refine Zat <| Zbj <| Zab <| Zac <| Zaa <| rp 29 (V) <| rp 4 (V) <| Zad <| Zab <| Za5 ?_
 obtain ⟨aF, cF, vsF, eF, hF⟩ := hO.pat
 subst eF
 exact Zaf (.slice aF (l.map (fun e : List Int × List Int => (e.1.drop d, e.2))).length cF) (fun _ => by kernel_rfl) ⟨_, rfl, ⟨aF, _, cF, vsF, rfl, hF⟩, hB⟩
set_option maxHeartbeats 2000000 in
theorem Zgn {K : Nat -> Prop} {w : World} {a : Option Addr} {n c : Nat} {vs : List (Value × Value)} {l : PList} (hl : PAt K w a n c vs l) (hb : n <= 2932031007400) (h1 : 0 < n) (hlen : ∀ (j : Nat) k x, l[j]? = some (k, x) -> k.length <= 1000000) :
  Calls Tryz.prog 61 #[.slice a n c] w fun e w' => ∃ u, e = .returned u /\ (fun u w' => u = .int .i64 ((alikeP l : Nat) : Int) /\ Bl w w') u w' := by
 have hB := Bl.refl w
 have ll := hl.ll
 have hl0 := hl.old
 obtain ⟨gE, oE, a0, n0, c0, b0, m0, d0, k0, x0, ea, he0, hc0, _, hs0, _⟩ := hl0.at h1
 subst ea
 have lk0 := hs0.len
 have hk0 := hlen 0 k0 x0 he0
 refine Za3 Tryz.func61 rfl 29 rfl ?_
 show CW _ _ _ _ _ _ _ [(0, .slice (some ⟨gE, oE, none⟩) n c)] _
 refine Zac <| Zaa <| rp 2 (.int .i64 0) <| Zad <| Zab <| Zac <| Zaa <| rp 5 (.slice (some ⟨gE, oE, none⟩) n c) <| rv 6 (.pointer (some ⟨gE, oE + 0 * 2, none⟩)) (fun _ => Zas 65 _ _ gE oE 0 n c 2 67 rfl (by kernel_rfl) (by kernel_rfl) h1 Tryz.underlying65 (by kernel_rfl)) <| rp 7 (.pointer (some ⟨gE, oE + 0 * 2, none⟩)) <| rv 8 (.slice a0 n0 c0) (fun _ => Zam 32 _ _ _ _ rfl (by kernel_rfl) ((Below.cell hB (block_lt_of_cell hc0)).trans hc0) Tryz.underlying32 rfl) <| rp 9 (.int .i64 n0) ?_
 refine rp 3 (.int .i64 n0) <| Zad <| Zab <| Zac <| Zac <| Zaa <| rp 4 (.int .i64 1) <| Zad <| Zab <| Zay <| Zdj (X := Nat × Nat) (fun z => [(4, .int .i64 ((z.1 : Nat) : Int)), (3, .int .i64 ((z.2 : Nat) : Int)), (0, .slice (some ⟨gE, oE, none⟩) n c)]) (fun z v => Bl w v /\ z.2 = alikeP (l.take z.1) /\ 1 <= z.1 /\ z.1 <= n) (fun z => n - z.1) (1, n0) (by exact ⟨fun _ => by kernel_rfl, ⟨fun _ => by kernel_rfl, ⟨fun _ => by kernel_rfl, trivial⟩⟩⟩) ⟨hB, by rw [Znx he0]; exact lk0.symm, Nat.le_refl _, h1⟩ ?_
 clear hB
 rintro ⟨j, m⟩ v ⟨hB, hm, hj0, hj⟩
 simp only at hB hm hj0 hj
 show CW _ _ _ _ _ _ _ [(4, .int .i64 ((j : Nat) : Int)), (3, .int .i64 ((m : Nat) : Int)), (0, .slice (some ⟨gE, oE, none⟩) n c)] _
 by_cases hlt : j < n
 ·skip
  obtain ⟨gJ, oJ, a1, n1, c1, b1, m1, d1, k1, x1, ea, hej, hc1, _, hs1, _⟩ := hl0.at hlt
  cases ea
  have lk1 := hs1.len
  have hk1 := hlen j k1 x1 hej
  refine Zac <| Zac <| Zaa <| rp 10 (.int .i64 ((j : Nat) : Int)) <| rp 11 (.slice (some ⟨gE, oE, none⟩) n c) <| rp 12 (.int .i64 n) <| rv 13 (.bool true) (fun _ => Zai (v := .bool (decide (((j : Nat) : Int) < (n : Int)))) (by kernel_rfl) (congrArg Value.bool (decide_eq_true (by omega)))) <| Zad <| Zab <| Zan (fun _ => by kernel_rfl) <| Zaz <| Zab ?_
  refine Zac <| Zay <| Zcb (fun v => Bl w v) (by kernel_rfl) (hB.drew) ?_
  replace hB := hB.drew
  refine dt 0 16 (.int .i64 ((m : Nat) : Int)) (fun v hv _ => by kernel_rfl) hB <| dt 1 17 (.slice (some ⟨gE, oE, none⟩) n c) (fun v hv _ => by kernel_rfl) hB <| dt 2 18 (.pointer (some ⟨gE, oE + 0 * 2, none⟩)) (fun v hv _ => Zas 65 _ _ gE oE 0 n c 2 67 rfl (by kernel_rfl) (by kernel_rfl) h1 Tryz.underlying65 (by kernel_rfl)) hB <| dt 3 19 (.pointer (some ⟨gE, oE + 0 * 2, none⟩)) (fun v hv _ => by kernel_rfl) hB <| dt 4 20 (.slice a0 n0 c0) (fun v hv _ => Zam 32 _ _ _ _ rfl (by kernel_rfl) ((Below.cell hv (block_lt_of_cell hc0)).trans hc0) Tryz.underlying32 rfl) hB <| dt 5 21 (.slice (some ⟨gE, oE, none⟩) n c) (fun v hv _ => by kernel_rfl) hB <| dt 6 22 (.int .i64 ((j : Nat) : Int)) (fun v hv _ => by kernel_rfl) hB <| dt 7 23 (.pointer (some ⟨gE, oE + j * 2, none⟩)) (fun v hv _ => Zas 65 _ _ gE oE j n c 2 67 rfl (by kernel_rfl) (by kernel_rfl) hlt Tryz.underlying65 (by kernel_rfl)) hB <| dt 8 24 (.pointer (some ⟨gE, oE + j * 2, none⟩)) (fun v hv _ => by kernel_rfl) hB <| dt 9 25 (.slice a1 n1 c1) (fun v hv _ => Zam 32 _ _ _ _ rfl (by kernel_rfl) ((Below.cell hv (block_lt_of_cell hc1)).trans hc1) Tryz.underlying32 rfl) hB <| Zah [10] (by kernel_rfl) (by simp) ?_
  refine Zba 10 26 53 #[.slice a0 n0 c0, .slice a1 n1 c1] rfl (fun _ => by kernel_rfl) (fun _ => by kernel_rfl) (R := fun u w' => u = .int .i64 ((Ni.com k0 k1 : Nat) : Int) /\ Bl (v.drew) w') ((Ni.rcommon_any _ _ _ _ _ _ k0 k1 _ (hs0.go hB).ag (hs1.go hB).ag (by omega) (by omega)).mono (fun e w' ⟨h1, h2⟩ => ⟨_, h1, rfl, h2⟩)) (fun u w' h => hB.go h.2) ?_ Zar
  rintro _ u1 ⟨rfl, hb6⟩
  replace hB := hB.go hb6
  refine dt 11 27 (.int .i64 ((min m (Ni.com k0 k1) : Nat) : Int)) (fun v hv _ => Zai (v := .int .i64 (if ((Ni.com k0 k1 : Nat) : Int) < ((m : Nat) : Int) then ((Ni.com k0 k1 : Nat) : Int) else ((m : Nat) : Int))) (by kernel_rfl) (congrArg (Value.int .i64) (by split <;> omega))) hB <| dt 12 3 (.int .i64 ((min m (Ni.com k0 k1) : Nat) : Int)) (fun v hv _ => by kernel_rfl) hB <| Zbn (by kernel_rfl) <| Zbb <| Zab <| Zaa <| rp 14 (.int .i64 ((j : Nat) : Int)) <| rv 15 (.int .i64 (((j : Nat) : Int) + 1)) (fun _ => Zai (v := .int .i64 (IntKind.i64.wrap (((j : Nat) : Int) + 1))) (by kernel_rfl) (congrArg (Value.int .i64) (Zb6 (by omega) (by omega)))) <| rp 4 (.int .i64 (((j : Nat) : Int) + 1)) <| Zad ?_
  exact Zbi (E := fun z => [(4, .int .i64 ((z.1 : Nat) : Int)), (3, .int .i64 ((z.2 : Nat) : Int)), (0, .slice (some ⟨gE, oE, none⟩) n c)]) (R := fun z v => Bl w v /\ z.2 = alikeP (l.take z.1) /\ 1 <= z.1 /\ z.1 <= n) (μ := fun z => n - z.1) (x := (j, m)) (j + 1, min m (Ni.com k0 k1)) (by exact ⟨fun _ => by kernel_rfl, ⟨fun _ => by kernel_rfl, ⟨fun _ => by kernel_rfl, trivial⟩⟩⟩) ⟨hB, by show min m (Ni.com k0 k1) = _; rw [Zqy he0 hej hj0, hm], by show 1 <= j + 1; omega, by show j + 1 <= n; omega⟩ (by show n - (j + 1) < n - j; omega)
 obtain rfl : j = n := by omega
 rw [List.take_of_length_le (by omega)] at hm
 show CW _ _ _ _ _ _ _ [(4, .int .i64 ((j : Nat) : Int)), (3, .int .i64 ((m : Nat) : Int)), (0, .slice (some ⟨gE, oE, none⟩) j c)] _
 refine Zac <| Zac <| Zaa <| rp 10 (.int .i64 ((j : Nat) : Int)) <| rp 11 (.slice (some ⟨gE, oE, none⟩) j c) <| rp 12 (.int .i64 j) <| rv 13 (.bool false) (fun _ => Zai (v := .bool (decide (((j : Nat) : Int) < (j : Int)))) (by kernel_rfl) (congrArg Value.bool (decide_eq_false (by omega)))) <| Zad <| Zab <| Zao (fun _ => by kernel_rfl) <| Zd5 <| Zat ?_
 refine Zat <| Zbj <| Zab <| Zac <| Zaa <| rp 28 (.int .i64 ((m : Nat) : Int)) <| rp 2 (.int .i64 ((m : Nat) : Int)) <| Zad <| Zab <| Za5 ?_
 exact Zaf (.int .i64 ((m : Nat) : Int)) (fun _ => by kernel_rfl) ⟨_, rfl, by rw [hm], hB⟩
set_option maxHeartbeats 2000000 in
theorem Zjg {K : Nat -> Prop} {w : World} {a : Option Addr} {n c : Nat} {vs : List (Value × Value)} {l : PList} (hl : PAt K w a n c vs l) (hb : n <= 2932031007400) (i : Nat) (hi : i < 16) :
  Calls Tryz.prog 75 #[.slice a n c, .int .u8 ((i : Nat) : Int)] w fun e w' => ∃ u, e = .returned u /\ (fun u w' => (∃ a' m' c' vs', u = .slice a' m' c' /\ PAt (fun b => K b \/ w.heap.size <= b) w' a' m' c' vs' (underP ((i : Nat) : Int) l)) /\ Bl w w') u w' := by
 have hB := Bl.refl w
 have ll := hl.ll
 have hl0 := hl.old
 refine Za3 Tryz.func75 rfl 40 rfl ?_
 show CW _ _ _ _ _ _ _ [(0, .slice a n c), (1, .int .u8 ((i : Nat) : Int))] _
 refine Zac <| Zaa <| rp 4 (.slice none 0 0) <| Zad <| Zab <| Zac <| Zaa <| rp 5 (.slice none 0 0) <| Zad <| Zab <| Zac <| Zac ?_
 refine Zaa <| rp 6 (.int .i64 0) <| Zad <| Zab <| Zay <| Zdj (X := Nat × Value) (fun z => [(6, .int .i64 ((z.1 : Nat) : Int)), (5, z.2), (0, .slice a n c), (1, .int .u8 ((i : Nat) : Int))]) (fun z v => Bl w v /\ OwnN (fun b => K b \/ w.heap.size <= b) v w.heap.size z.2 (filtP ((i : Nat) : Int) (l.take z.1)) /\ z.1 <= n) (fun z => n - z.1) (0, .slice none 0 0) (by exact ⟨fun _ => by kernel_rfl, ⟨fun _ => by kernel_rfl, ⟨fun _ => by kernel_rfl, ⟨fun _ => by kernel_rfl, trivial⟩⟩⟩⟩) ⟨hB, by rw [List.take_zero]; exact OwnN.nil (fun b hb => .inr hb), Nat.zero_le _⟩ ?_
 clear hB
 rintro ⟨j, V⟩ v ⟨hB, hO, hj⟩
 simp only at hB hO hj
 show CW _ _ _ _ _ _ _ [(6, .int .i64 ((j : Nat) : Int)), (5, V), (0, .slice a n c), (1, .int .u8 ((i : Nat) : Int))] _
 by_cases hlt : j < n
 ·skip
  obtain ⟨gE, oE, a1, n1, c1, a2, n2, c2, k, x, ea, hej, hc1, hc2, hs1, hs2⟩ := hl0.at hlt
  subst ea
  have lk := hs1.len
  have hst := Zs9 ((i : Nat) : Int) hej
  have hln := Zhk ((i : Nat) : Int) (l.take j)
  rw [List.length_take] at hln
  cases k with
  | nil =>
   rw [show filt1 ((i : Nat) : Int) ([], x) = [] from rfl, List.append_nil] at hst
   refine Zac <| Zac <| Zaa <| rp 7 (.int .i64 ((j : Nat) : Int)) <| rp 8 (.slice (some ⟨gE, oE, none⟩) n c) <| rp 9 (.int .i64 n) <| rv 10 (.bool true) (fun _ => Zai (v := .bool (decide (((j : Nat) : Int) < (n : Int)))) (by kernel_rfl) (congrArg Value.bool (decide_eq_true (by omega)))) <| Zad <| Zab <| Zan (fun _ => by kernel_rfl) <| Zaz <| Zab ?_
   refine Zac <| Zay <| Zac <| Zaa <| rp 13 (.slice (some ⟨gE, oE, none⟩) n c) <| rp 14 (.int .i64 ((j : Nat) : Int)) <| rv 15 (.pointer (some ⟨gE, oE + j * 2, none⟩)) (fun _ => Zas 65 _ _ gE oE j n c 2 67 rfl (by kernel_rfl) (by kernel_rfl) hlt Tryz.underlying65 (by kernel_rfl)) <| rp 16 (.pointer (some ⟨gE, oE + j * 2, none⟩)) <| rv 17 (.slice a1 n1 c1) (fun _ => Zam 32 _ _ _ _ rfl (by kernel_rfl) ((Below.cell hB (block_lt_of_cell hc1)).trans hc1) Tryz.underlying32 rfl) <| rp 18 (.int .i64 n1) <| rv 19 (.bool false) (fun _ => Zai (v := .bool (decide ((n1 : Int) > (0 : Int)))) (by kernel_rfl) (congrArg Value.bool (decide_eq_false (by simp at lk; omega)))) <| rp 20 (.bool false) ?_
   refine Za9 21 (fun _ => by kernel_rfl) <| Za9 22 (fun _ => by kernel_rfl) <| Za9 23 (fun _ => by kernel_rfl) <| Za9 24 (fun _ => by kernel_rfl) <| Za9 25 (fun _ => by kernel_rfl) <| Za9 26 (fun _ => by kernel_rfl) <| Za9 27 (fun _ => by kernel_rfl) <| Za9 28 (fun _ => by kernel_rfl) <| Za9 29 (fun _ => by kernel_rfl) <| rp 30 (.bool false) <| Zad <| Zab ?_
   refine Zao (fun _ => by kernel_rfl) <| Zaz <| Zbb <| Zab <| Zaa <| rp 11 (.int .i64 ((j : Nat) : Int)) <| rv 12 (.int .i64 (((j : Nat) : Int) + 1)) (fun _ => Zai (v := .int .i64 (IntKind.i64.wrap (((j : Nat) : Int) + 1))) (by kernel_rfl) (congrArg (Value.int .i64) (Zb6 (by omega) (by omega)))) <| rp 6 (.int .i64 (((j : Nat) : Int) + 1)) <| Zad ?_
   exact Zbi (E := fun z => [(6, .int .i64 ((z.1 : Nat) : Int)), (5, z.2), (0, .slice (some ⟨gE, oE, none⟩) n c), (1, .int .u8 ((i : Nat) : Int))]) (R := fun z v => Bl w v /\ OwnN (fun b => K b \/ w.heap.size <= b) v w.heap.size z.2 (filtP ((i : Nat) : Int) (l.take z.1)) /\ z.1 <= n) (μ := fun z => n - z.1) (x := (j, V)) (j + 1, V) (by exact ⟨fun _ => by kernel_rfl, ⟨fun _ => by kernel_rfl, ⟨fun _ => by kernel_rfl, ⟨fun _ => by kernel_rfl, trivial⟩⟩⟩⟩) ⟨hB, by show OwnN _ _ _ _ (filtP ((i : Nat) : Int) (l.take (j + 1))); rw [hst]; exact hO, by show j + 1 <= n; omega⟩ (by show n - (j + 1) < n - j; omega)
  | cons y p =>
   obtain ⟨g1, o1, ea1, hcb, hn1⟩ := hs1.head
   subst ea1
   by_cases hyi : y = ((i : Nat) : Int)
   ·skip
    rw [show filt1 ((i : Nat) : Int) (y :: p, x) = [(y :: p, x)] from if_pos hyi] at hst
    refine Zac <| Zac <| Zaa <| rp 7 (.int .i64 ((j : Nat) : Int)) <| rp 8 (.slice (some ⟨gE, oE, none⟩) n c) <| rp 9 (.int .i64 n) <| rv 10 (.bool true) (fun _ => Zai (v := .bool (decide (((j : Nat) : Int) < (n : Int)))) (by kernel_rfl) (congrArg Value.bool (decide_eq_true (by omega)))) <| Zad <| Zab <| Zan (fun _ => by kernel_rfl) <| Zaz <| Zab ?_
    refine Zac <| Zay <| Zac <| Zaa <| rp 13 (.slice (some ⟨gE, oE, none⟩) n c) <| rp 14 (.int .i64 ((j : Nat) : Int)) <| rv 15 (.pointer (some ⟨gE, oE + j * 2, none⟩)) (fun _ => Zas 65 _ _ gE oE j n c 2 67 rfl (by kernel_rfl) (by kernel_rfl) hlt Tryz.underlying65 (by kernel_rfl)) <| rp 16 (.pointer (some ⟨gE, oE + j * 2, none⟩)) <| rv 17 (.slice (some ⟨g1, o1, none⟩) n1 c1) (fun _ => Zam 32 _ _ _ _ rfl (by kernel_rfl) ((Below.cell hB (block_lt_of_cell hc1)).trans hc1) Tryz.underlying32 rfl) <| rp 18 (.int .i64 n1) <| rv 19 (.bool true) (fun _ => Zai (v := .bool (decide ((n1 : Int) > (0 : Int)))) (by kernel_rfl) (congrArg Value.bool (decide_eq_true (by omega)))) <| rp 20 (.bool true) ?_
    refine rp 21 (.slice (some ⟨gE, oE, none⟩) n c) <| rp 22 (.int .i64 ((j : Nat) : Int)) <| rv 23 (.pointer (some ⟨gE, oE + j * 2, none⟩)) (fun _ => Zas 65 _ _ gE oE j n c 2 67 rfl (by kernel_rfl) (by kernel_rfl) hlt Tryz.underlying65 (by kernel_rfl)) <| rp 24 (.pointer (some ⟨gE, oE + j * 2, none⟩)) <| rv 25 (.slice (some ⟨g1, o1, none⟩) n1 c1) (fun _ => Zam 32 _ _ _ _ rfl (by kernel_rfl) ((Below.cell hB (block_lt_of_cell hc1)).trans hc1) Tryz.underlying32 rfl) <| rv 26 (.pointer (some ⟨g1, o1 + 0 * 1, none⟩)) (fun _ => Zas 32 _ _ g1 o1 0 n1 c1 1 5 rfl (by kernel_rfl) (by kernel_rfl) hn1 Tryz.underlying32 (by kernel_rfl)) <| rv 27 (.int .u8 y) (fun _ => Zam 5 _ _ _ _ rfl (by kernel_rfl) ((Below.cell hB (block_lt_of_cell hcb)).trans hcb) Tryz.underlying5 rfl) <| rp 28 (.int .u8 ((i : Nat) : Int)) <| rv 29 (.bool true) (fun _ => Zai (v := .bool ((y : Int) == ((i : Nat) : Int))) (by kernel_rfl) (congrArg Value.bool (beq_iff_eq.2 hyi))) <| rp 30 (.bool true) <| Zad <| Zab ?_
    refine Zan (fun _ => by kernel_rfl) <| Zaa <| rp 31 (V) <| rp 32 (.slice (some ⟨gE, oE, none⟩) n c) <| rp 33 (.int .i64 ((j : Nat) : Int)) <| rv 34 (.pointer (some ⟨gE, oE + j * 2, none⟩)) (fun _ => Zas 65 _ _ gE oE j n c 2 67 rfl (by kernel_rfl) (by kernel_rfl) hlt Tryz.underlying65 (by kernel_rfl)) <| rv 35 (.agg #[.slice (some ⟨g1, o1, none⟩) n1 c1, .slice a2 n2 c2]) (fun _ => Zl7 67 _ gE (oE + j * 2) [.slice (some ⟨g1, o1, none⟩) n1 c1, .slice a2 n2 c2] _ rfl (by kernel_rfl) (rng2D ((Below.cell hB (block_lt_of_cell hc1)).trans hc1) ((Below.cell hB (block_lt_of_cell hc2)).trans hc2)) Tryz.underlying67 rfl (by kernel_rfl)) ?_
    have hOw := hO.own
    have hwz := hB.size
    refine Zdf 36 #[.slice (some ⟨g1, o1, none⟩) n1 c1, .slice a2 n2 c2] 67 1 (fun _ => by kernel_rfl) (fun _ => by kernel_rfl) ?_
    intro wN gN hnN
    have hP1 := PAt.oneN hnN ((hs1.go hB).mono (K' := fun b => (K b /\ b < w.heap.size) \/ v.heap.size <= b) (fun b hb => .inl hb)) ((hs2.go hB).mono (K' := fun b => (K b /\ b < w.heap.size) \/ v.heap.size <= b) (fun b hb => .inl hb)) (by have := hnN.hg; exact .inr (by omega))
    replace hB := hB.go hnN.below
    replace hO := hO.far hnN.below
    obtain ⟨V2, wQ, hrQ, hOQ, hbQ⟩ := appN hO hP1 (fun b hb => ⟨fun e => by have := hOw b e; rcases hb with h | h <;> omega, by rcases hb with h | h; exact .inl h.1; exact .inr (by omega)⟩) (by omega) hB.size
    refine rw_v 37 V2 (fun _ => by kernel_rfl) (fun _ => Zkz hrQ _ _ rfl (by kernel_rfl) (by kernel_rfl)) ?_
    replace hB : Bl w wQ := Below.trans hB hbQ
    replace hO := hOQ
    refine rp 5 (V2) <| Zad <| Zbb <| Zab <| Zaa <| rp 11 (.int .i64 ((j : Nat) : Int)) <| rv 12 (.int .i64 (((j : Nat) : Int) + 1)) (fun _ => Zai (v := .int .i64 (IntKind.i64.wrap (((j : Nat) : Int) + 1))) (by kernel_rfl) (congrArg (Value.int .i64) (Zb6 (by omega) (by omega)))) <| rp 6 (.int .i64 (((j : Nat) : Int) + 1)) <| Zad ?_
    exact Zbi (E := fun z => [(6, .int .i64 ((z.1 : Nat) : Int)), (5, z.2), (0, .slice (some ⟨gE, oE, none⟩) n c), (1, .int .u8 ((i : Nat) : Int))]) (R := fun z v => Bl w v /\ OwnN (fun b => K b \/ w.heap.size <= b) v w.heap.size z.2 (filtP ((i : Nat) : Int) (l.take z.1)) /\ z.1 <= n) (μ := fun z => n - z.1) (x := (j, V)) (j + 1, V2) (by exact ⟨fun _ => by kernel_rfl, ⟨fun _ => by kernel_rfl, ⟨fun _ => by kernel_rfl, ⟨fun _ => by kernel_rfl, trivial⟩⟩⟩⟩) ⟨hB, by show OwnN _ _ _ _ (filtP ((i : Nat) : Int) (l.take (j + 1))); rw [hst]; exact hO, by show j + 1 <= n; omega⟩ (by show n - (j + 1) < n - j; omega)
   ·skip
    rw [show filt1 ((i : Nat) : Int) (y :: p, x) = [] from if_neg hyi, List.append_nil] at hst
    refine Zac <| Zac <| Zaa <| rp 7 (.int .i64 ((j : Nat) : Int)) <| rp 8 (.slice (some ⟨gE, oE, none⟩) n c) <| rp 9 (.int .i64 n) <| rv 10 (.bool true) (fun _ => Zai (v := .bool (decide (((j : Nat) : Int) < (n : Int)))) (by kernel_rfl) (congrArg Value.bool (decide_eq_true (by omega)))) <| Zad <| Zab <| Zan (fun _ => by kernel_rfl) <| Zaz <| Zab ?_
    refine Zac <| Zay <| Zac <| Zaa <| rp 13 (.slice (some ⟨gE, oE, none⟩) n c) <| rp 14 (.int .i64 ((j : Nat) : Int)) <| rv 15 (.pointer (some ⟨gE, oE + j * 2, none⟩)) (fun _ => Zas 65 _ _ gE oE j n c 2 67 rfl (by kernel_rfl) (by kernel_rfl) hlt Tryz.underlying65 (by kernel_rfl)) <| rp 16 (.pointer (some ⟨gE, oE + j * 2, none⟩)) <| rv 17 (.slice (some ⟨g1, o1, none⟩) n1 c1) (fun _ => Zam 32 _ _ _ _ rfl (by kernel_rfl) ((Below.cell hB (block_lt_of_cell hc1)).trans hc1) Tryz.underlying32 rfl) <| rp 18 (.int .i64 n1) <| rv 19 (.bool true) (fun _ => Zai (v := .bool (decide ((n1 : Int) > (0 : Int)))) (by kernel_rfl) (congrArg Value.bool (decide_eq_true (by omega)))) <| rp 20 (.bool true) ?_
    refine rp 21 (.slice (some ⟨gE, oE, none⟩) n c) <| rp 22 (.int .i64 ((j : Nat) : Int)) <| rv 23 (.pointer (some ⟨gE, oE + j * 2, none⟩)) (fun _ => Zas 65 _ _ gE oE j n c 2 67 rfl (by kernel_rfl) (by kernel_rfl) hlt Tryz.underlying65 (by kernel_rfl)) <| rp 24 (.pointer (some ⟨gE, oE + j * 2, none⟩)) <| rv 25 (.slice (some ⟨g1, o1, none⟩) n1 c1) (fun _ => Zam 32 _ _ _ _ rfl (by kernel_rfl) ((Below.cell hB (block_lt_of_cell hc1)).trans hc1) Tryz.underlying32 rfl) <| rv 26 (.pointer (some ⟨g1, o1 + 0 * 1, none⟩)) (fun _ => Zas 32 _ _ g1 o1 0 n1 c1 1 5 rfl (by kernel_rfl) (by kernel_rfl) hn1 Tryz.underlying32 (by kernel_rfl)) <| rv 27 (.int .u8 y) (fun _ => Zam 5 _ _ _ _ rfl (by kernel_rfl) ((Below.cell hB (block_lt_of_cell hcb)).trans hcb) Tryz.underlying5 rfl) <| rp 28 (.int .u8 ((i : Nat) : Int)) <| rv 29 (.bool false) (fun _ => Zai (v := .bool ((y : Int) == ((i : Nat) : Int))) (by kernel_rfl) (congrArg Value.bool (beq_eq_false_iff_ne.2 hyi))) <| rp 30 (.bool false) <| Zad <| Zab ?_
    refine Zao (fun _ => by kernel_rfl) <| Zaz <| Zbb <| Zab <| Zaa <| rp 11 (.int .i64 ((j : Nat) : Int)) <| rv 12 (.int .i64 (((j : Nat) : Int) + 1)) (fun _ => Zai (v := .int .i64 (IntKind.i64.wrap (((j : Nat) : Int) + 1))) (by kernel_rfl) (congrArg (Value.int .i64) (Zb6 (by omega) (by omega)))) <| rp 6 (.int .i64 (((j : Nat) : Int) + 1)) <| Zad ?_
    exact Zbi (E := fun z => [(6, .int .i64 ((z.1 : Nat) : Int)), (5, z.2), (0, .slice (some ⟨gE, oE, none⟩) n c), (1, .int .u8 ((i : Nat) : Int))]) (R := fun z v => Bl w v /\ OwnN (fun b => K b \/ w.heap.size <= b) v w.heap.size z.2 (filtP ((i : Nat) : Int) (l.take z.1)) /\ z.1 <= n) (μ := fun z => n - z.1) (x := (j, V)) (j + 1, V) (by exact ⟨fun _ => by kernel_rfl, ⟨fun _ => by kernel_rfl, ⟨fun _ => by kernel_rfl, ⟨fun _ => by kernel_rfl, trivial⟩⟩⟩⟩) ⟨hB, by show OwnN _ _ _ _ (filtP ((i : Nat) : Int) (l.take (j + 1))); rw [hst]; exact hO, by show j + 1 <= n; omega⟩ (by show n - (j + 1) < n - j; omega)
 obtain rfl : j = n := by omega
 rw [List.take_of_length_le (by omega)] at hO
 show CW _ _ _ _ _ _ _ [(6, .int .i64 ((j : Nat) : Int)), (5, V), (0, .slice a j c), (1, .int .u8 ((i : Nat) : Int))] _
 refine Zac <| Zac <| Zaa <| rp 7 (.int .i64 ((j : Nat) : Int)) <| rp 8 (.slice a j c) <| rp 9 (.int .i64 j) <| rv 10 (.bool false) (fun _ => Zai (v := .bool (decide (((j : Nat) : Int) < (j : Int)))) (by kernel_rfl) (congrArg Value.bool (decide_eq_false (by omega)))) <| Zad <| Zab <| Zao (fun _ => by kernel_rfl) <| Zd5 <| Zat ?_
 refine Zat <| Zbj <| Zab <| Zac ?_
 obtain ⟨aF, cF, vsF, eF, hF⟩ := hO.pat
 subst eF
 have hlf := Zhk ((i : Nat) : Int) l
 have hwz := hB.size
 refine Zaa <| rp 38 (.slice aF (filtP ((i : Nat) : Int) l).length cF) ?_
 refine Za1 39 63 #[.slice aF (filtP ((i : Nat) : Int) l).length cF, .int .i64 ((1 : Nat) : Int)] (fun _ => by kernel_rfl) (fun _ => by kernel_rfl) (R := fun u w' => (∃ a' m' c' vs', u = .slice a' m' c' /\ PAt (fun b => K b \/ w.heap.size <= b) w' a' m' c' vs' (underP ((i : Nat) : Int) l)) /\ Bl (v) w') ((Zph (d := 1) hF (by omega) (fun j k x h => Zvi h)).mono (fun e w' ⟨u, e1, ⟨a', m', c', vs', e2, e3⟩, e4⟩ => ⟨u, e1, ⟨a', m', c', vs', e2, by rw [Zgi] at e3; exact e3.mono (fun b hb => by rcases hb with h | h; exact h; exact .inr (by omega))⟩, e4⟩)) ?_
 rintro _ u8 ⟨⟨a8, m8, c8, vs8, rfl, hP8⟩, hb8⟩
 replace hB := hB.go hb8
 refine rp 4 (.slice a8 m8 c8) <| Zad <| Zab <| Za5 ?_
 exact Zaf (.slice a8 m8 c8) (fun _ => by kernel_rfl) ⟨_, rfl, ⟨a8, m8, c8, vs8, rfl, hP8⟩, hB⟩
end Go.Proofs.YtdkpilgelgjieaaGreat
namespace Go.Proofs.YtdkpilgelgjieaaGreat
open Go.RowKit
end Go.Proofs.YtdkpilgelgjieaaGreat

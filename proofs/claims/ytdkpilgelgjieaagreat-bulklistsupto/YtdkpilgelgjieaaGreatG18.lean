/- Keys and values as a list in order, and what a tree has to do with it. -/
import Derived.Test.YtdkpilgelgjieaaGreatG17
import Derived.Test.YtdkpilgelgjieaaGreatG15
import Derived.Maps.AppendAt
import Derived.Laws.AppendOwnNone
import Derived.Test.YtdkpilgelgjieaaGreatG02
set_option linter.unusedVariables false
set_option maxRecDepth 100000
namespace Go.Proofs.YtdkpilgelgjieaaGreat
open Tr
open Ni (lessP)
def entsR : Tr -> PList
 | no => []
 | leaf q x => [(q, x)]
 | ext q c => (entsR c).map fun e => (q ++ e.1, e.2)
 | br k x => (if x = [] then [] else [([], x)]) ++ (List.range 16).flatMap fun i => (entsR (k i)).map fun e => (((i : Nat) : Int) :: e.1, e.2)
theorem Zdi {α β : Type} (f g : α -> List β) : ∀ l : List α, (∀ i ∈ l, f i = g i) -> l.flatMap f = l.flatMap g
 | [], _ => rfl
 | a :: l, h => by rw [List.flatMap_cons, List.flatMap_cons, h a (by simp), Zdi f g l (fun i hi => h i (List.mem_cons_of_mem _ hi))]
theorem Zpa : ∀ (t : Tr) (q : List Int), entsF q t = (entsR t).map fun e => ((Ni.keyP (q ++ e.1)).1, e.2) := by
 intro t
 induction t with
 | no => intro q; rfl
 | leaf p x => intro q; rfl
 | ext p c ih => intro q; simp [entsF, entsR, ih, List.append_assoc]
 | br k x ih =>
  intro q
  simp only [entsF, entsR, List.map_append, List.map_flatMap]
  congr 1
  ·by_cases h : x = [] <;> simp [h]
  ·refine Zdi _ _ _ (fun i _ => ?_)
   rw [ih i]
   by_cases h : (k i).isNo = true
   ·rw [if_pos h]
    cases hk : k i <;> simp_all [isNo, entsR]
   ·rw [if_neg h]
    simp [List.map_map, Function.comp, List.append_assoc]
theorem Zu8 (q a b : List Int) : lessP (q ++ a) (q ++ b) = lessP a b := by
 induction q with
 | nil => rfl
 | cons x q ih => simp [lessP, ih]
def SrtP (l : PList) : Prop := l.Pairwise fun e f => lessP e.1 f.1 = true
theorem Zjw {α : Type} {R : α -> α -> Prop} (f : Nat -> List α) : ∀ n : Nat, (∀ i, i < n -> (f i).Pairwise R) -> (∀ i j, i < j -> j < n -> ∀ a ∈ f i, ∀ b ∈ f j, R a b) -> ((List.range n).flatMap f).Pairwise R
 | 0, _, _ => by simp
 | n + 1, h1, h2 => by
  rw [List.range_succ, List.flatMap_append, List.pairwise_append]
  refine ⟨Zjw f n (fun i hi => h1 i (by omega)) (fun i j hij hj => h2 i j hij (by omega)), by simpa using h1 n (by omega), ?_⟩
  intro a ha b hb
  obtain ⟨i, hi, hai⟩ := List.mem_flatMap.1 ha
  have hb' : b ∈ f n := by simpa using hb
  exact h2 i n (List.mem_range.1 hi) (by omega) a hai b hb'
theorem Zuo : ∀ t : Tr, SrtP (entsR t) := by
 intro t
 induction t with
 | no => simp [entsR, SrtP]
 | leaf p x => simp [entsR, SrtP]
 | ext p c ih =>
  simp only [entsR, SrtP, List.pairwise_map] at ih ⊢
  exact ih.imp (fun h => by rw [Zu8]; exact h)
 | br k x ih =>
  simp only [entsR, SrtP]
  rw [List.pairwise_append]
  refine ⟨?_, ?_, ?_⟩
  ·by_cases h : x = [] <;> simp [h]
  ·refine Zjw _ 16 (fun i hi => ?_) (fun i j hij hj a ha b hb => ?_)
   ·rw [List.pairwise_map]
    exact (ih i).imp (fun h => by simp [lessP, h])
   ·obtain ⟨e, _, rfl⟩ := List.mem_map.1 ha
    obtain ⟨f, _, rfl⟩ := List.mem_map.1 hb
    simp only [lessP]
    rw [if_neg (by omega)]
    exact decide_eq_true (by omega)
  ·intro a ha b hb
   obtain ⟨i, _, hbi⟩ := List.mem_flatMap.1 hb
   obtain ⟨f, _, rfl⟩ := List.mem_map.1 hbi
   by_cases h : x = []
   ·simp [h] at ha
   ·simp [h] at ha
    rw [ha]; rfl
theorem Zhj : ∀ (t : Tr) {B : Nat}, Tr.Ok B t -> ∀ p x, (p, x) ∈ entsR t ↔ (Nb p /\ Tr.get t p = x /\ x ≠ []) := by
 intro t
 induction t with
 | no => intro B hO; exact hO.elim
 | leaf q v =>
  intro B hO p x
  simp only [entsR, List.mem_singleton, Prod.mk.injEq, Tr.get]
  constructor
  ·rintro ⟨rfl, rfl⟩
   exact ⟨hO.1, if_pos rfl, hO.2.2⟩
  ·rintro ⟨h1, h2, h3⟩
   by_cases e : p = q
   ·rw [if_pos e] at h2; exact ⟨e, h2.symm⟩
   ·rw [if_neg e] at h2; exact absurd h2.symm h3
 | ext q c ih =>
  intro B hO p x
  obtain ⟨o1, o2, o3, o4, o5⟩ := hO
  simp only [entsR, List.mem_map, Prod.mk.injEq, Tr.get]
  constructor
  ·rintro ⟨⟨p', x'⟩, hm, rfl, rfl⟩
   obtain ⟨h1, h2, h3⟩ := (ih o5 p' x').1 hm
   exact ⟨o1.app h1, by simp [h2], h3⟩
  ·rintro ⟨h1, h2, h3⟩
   by_cases e : p.take q.length = q
   ·rw [if_pos e] at h2
    refine ⟨(p.drop q.length, x), (ih o5 _ _).2 ⟨h1.drop _, h2, h3⟩, ?_, rfl⟩
    have := List.take_append_drop q.length p
    rw [e] at this
    exact this
   ·rw [if_neg e] at h2; exact absurd h2.symm h3
 | br k v ih =>
  intro B hO p x
  simp only [entsR, List.mem_append, List.mem_flatMap, List.mem_range, List.mem_map, Prod.mk.injEq]
  constructor
  ·rintro (h | ⟨i, hi, ⟨p', x'⟩, hm, rfl, rfl⟩)
   ·by_cases e : v = []
    ·simp [e] at h
    ·simp [e] at h
     obtain ⟨rfl, rfl⟩ := h
     exact ⟨fun i hi => by simp at hi, rfl, e⟩
   ·rcases hO.1 i with h | ⟨h16, hB1, hk⟩
    ·rw [h] at hm; simp [entsR] at hm
    ·obtain ⟨h1, h2, h3⟩ := (ih i hk p' x').1 hm
     refine ⟨fun j hj => ?_, by simpa [Tr.get] using h2, h3⟩
     rcases List.mem_cons.1 hj with e | hj
     ·omega
     ·exact h1 j hj
  ·rintro ⟨h1, h2, h3⟩
   cases p with
   | nil =>
    left
    have h2 : v = x := h2
    rw [if_neg (by rw [h2]; exact h3)]
    simp [h2]
   | cons i r =>
    right
    have hi := h1.head
    obtain ⟨j, rfl⟩ := Int.eq_ofNat_of_zero_le hi.1
    have h2 : Tr.get (k j) r = x := h2
    rcases hO.1 j with h | ⟨h16, hB1, hk⟩
    ·rw [h] at h2; exact absurd h2.symm h3
    ·exact ⟨j, h16, (r, x), (ih j hk r x).2 ⟨h1.tail, h2, h3⟩, rfl, rfl⟩
theorem Zlk : ∀ A B : PList, SrtP A -> SrtP B -> (∀ x, x ∈ A ↔ x ∈ B) -> A = B
 | [], [], _, _, _ => rfl
 | [], b :: B, _, _, h => by have := (h b).2 (by simp); simp at this
 | a :: A, [], _, _, h => by have := (h a).1 (by simp); simp at this
 | a :: A, b :: B, hA, hB, h => by
  obtain ⟨ha, hA'⟩ := List.pairwise_cons.1 hA
  obtain ⟨hb, hB'⟩ := List.pairwise_cons.1 hB
  have e : a = b := by
   rcases List.mem_cons.1 ((h a).1 (by simp)) with q | q
   ·exact q
   ·rcases List.mem_cons.1 ((h b).2 (by simp)) with p | p
    ·exact p.symm
    ·have := Zds _ _ _ (ha _ p) (hb _ q)
     rw [Zdc] at this; cases this
  subst e
  congr 1
  refine Zlk A B hA' hB' fun x => ⟨fun hx => ?_, fun hx => ?_⟩
  ·rcases List.mem_cons.1 ((h x).1 (List.mem_cons_of_mem _ hx)) with q | q
   ·subst q
    have := ha _ hx
    rw [Zdc] at this; cases this
   ·exact q
  ·rcases List.mem_cons.1 ((h x).2 (List.mem_cons_of_mem _ hx)) with q | q
   ·subst q
    have := hb _ hx
    rw [Zdc] at this; cases this
   ·exact q
def Byk (k : List Int) : Prop := ∀ y ∈ k, 0 <= y /\ y < 256
def atN (k : List Int) : PList -> Nat
 | [] => 0
 | e :: r => if lessP e.1 k then atN k r + 1 else 0
def isAt (k : List Int) (l : PList) : Bool := match l[atN k l]? with
 | some e => decide (e.1 = k)
 | none => false
def putR (k x : List Int) : PList -> PList
 | [] => [(k, x)]
 | e :: r => if lessP e.1 k then e :: putR k x r else if e.1 = k then (k, x) :: r else (k, x) :: e :: r
def delR (k : List Int) : PList -> PList
 | [] => []
 | e :: r => if lessP e.1 k then e :: delR k r else if e.1 = k then r else e :: r
theorem Zsv (k : List Int) (e : List Int × List Int) (r : PList) : isAt k (e :: r) = if lessP e.1 k then isAt k r else decide (e.1 = k) := by
 unfold isAt
 simp only [atN]
 by_cases h : lessP e.1 k = true
 ·simp [h]
 ·simp [h]
theorem Zvb (k : List Int) : ∀ l : PList, SrtP l -> (isAt k l = true ↔ ∃ x, (k, x) ∈ l)
 | [], _ => by simp [isAt]
 | e :: r, h => by
  obtain ⟨h1, h2⟩ := List.pairwise_cons.1 h
  rw [Zsv]
  by_cases hl : lessP e.1 k = true
  ·rw [if_pos hl, Zvb k r h2]
   constructor
   ·rintro ⟨x, hx⟩; exact ⟨x, List.mem_cons_of_mem _ hx⟩
   ·rintro ⟨x, hx⟩
    rcases List.mem_cons.1 hx with q | q
    ·rw [<- q] at hl; simp [Zdc] at hl
    ·exact ⟨x, q⟩
  ·rw [if_neg hl]
   constructor
   ·intro hd
    have := of_decide_eq_true hd
    exact ⟨e.2, by rw [<- this]; simp⟩
   ·rintro ⟨x, hx⟩
    rcases List.mem_cons.1 hx with q | q
    ·exact decide_eq_true (by rw [<- q])
    ·exact absurd (h1 _ q) hl
theorem Zhi (k x : List Int) : ∀ l : PList, SrtP l -> ∀ k' x', (k', x') ∈ putR k x l ↔ (k' = k /\ x' = x) \/ (k' ≠ k /\ (k', x') ∈ l)
 | [], _, k', x' => by simp [putR]
 | e :: r, h, k', x' => by
  obtain ⟨h1, h2⟩ := List.pairwise_cons.1 h
  have ih := Zhi k x r h2 k' x'
  simp only [putR]
  by_cases hl : lessP e.1 k = true
  ·rw [if_pos hl, List.mem_cons, ih, List.mem_cons]
   have hne : e.1 ≠ k := fun e1 => by rw [e1, Zdc] at hl; cases hl
   constructor
   ·rintro (q | q | q)
    ·exact .inr ⟨by rw [<- q] at hne; exact hne, .inl q⟩
    ·exact .inl q
    ·exact .inr ⟨q.1, .inr q.2⟩
   ·rintro (q | ⟨q1, q2 | q2⟩)
    ·exact .inr (.inl q)
    ·exact .inl q2
    ·exact .inr (.inr ⟨q1, q2⟩)
  ·rw [if_neg hl]
   by_cases e1 : e.1 = k
   ·rw [if_pos e1, List.mem_cons, List.mem_cons, Prod.mk.injEq]
    constructor
    ·rintro (q | q)
     ·exact .inl q
     ·refine .inr ⟨fun e2 => ?_, .inr q⟩
      have := h1 _ q
      rw [e1, e2, Zdc] at this; cases this
    ·rintro (q | ⟨q1, q2 | q2⟩)
     ·exact .inl q
     ·exact absurd (by rw [<- e1, <- q2]) q1
     ·exact .inr q2
   ·rw [if_neg e1, List.mem_cons, List.mem_cons, Prod.mk.injEq]
    constructor
    ·rintro (q | q)
     ·exact .inl q
     ·refine .inr ⟨fun e2 => ?_, q⟩
      have hke := Zov e.1 k e1 (by simpa using hl)
      rcases q with q | q
      ·exact e1 (by rw [<- q]; exact e2)
      ·have := Zds _ _ _ hke (h1 _ q)
       rw [e2, Zdc] at this; cases this
    ·rintro (q | ⟨q1, q2⟩)
     ·exact .inl q
     ·exact .inr q2
theorem Zn8 (k x : List Int) : ∀ l : PList, SrtP l -> SrtP (putR k x l)
 | [], _ => by simp [putR, SrtP]
 | e :: r, h => by
  obtain ⟨h1, h2⟩ := List.pairwise_cons.1 h
  simp only [putR]
  by_cases hl : lessP e.1 k = true
  ·rw [if_pos hl]
   refine List.pairwise_cons.2 ⟨fun f hf => ?_, Zn8 k x r h2⟩
   obtain ⟨f1, f2⟩ := f
   rcases (Zhi k x r h2 f1 f2).1 hf with q | q
   ·rw [q.1]; exact hl
   ·exact h1 _ q.2
  ·rw [if_neg hl]
   by_cases e1 : e.1 = k
   ·rw [if_pos e1]
    exact List.pairwise_cons.2 ⟨fun f hf => by have := h1 f hf; rw [e1] at this; exact this, h2⟩
   ·rw [if_neg e1]
    have hke := Zov e.1 k e1 (by simpa using hl)
    refine List.pairwise_cons.2 ⟨fun f hf => ?_, h⟩
    rcases List.mem_cons.1 hf with q | q
    ·rw [q]; exact hke
    ·exact Zds _ _ _ hke (h1 f q)
end Go.Proofs.YtdkpilgelgjieaaGreat
namespace Go.Proofs.YtdkpilgelgjieaaGreat
open Go.RowKit
open Tr
structure Opx where
 z : Int
 ka : Option Addr
 kn : Nat
 kc : Nat
 va : Option Addr
 vn : Nat
 vc : Nat
 k : List Int
 x : List Int
def Opx.cells (y : Opx) : Array Value := #[.int .i64 y.z, .slice y.ka y.kn y.kc, .slice y.va y.vn y.vc]
def An : Nat -> Prop := fun _ => True
structure OAt (w : World) (a : Option Addr) (n : Nat) (xs : List Opx) : Prop where
 len : xs.length = n
 row : ∀ j y, xs[j]? = some y -> ∃ g off, a = some ⟨g, off, none⟩ /\ w.rangeAt g (off + j * 3) y.cells.toList
 k : ∀ y ∈ xs, Ag w y.ka y.kn y.kc y.k
 x : ∀ y ∈ xs, Ag w y.va y.vn y.vc y.x
end Go.Proofs.YtdkpilgelgjieaaGreat
namespace Go.Proofs.YtdkpilgelgjieaaGreat
open Tr
open Ni (lessP)
structure Rel (t : Tr) (l : PList) : Prop where
 s : SrtP l
 m : ∀ k x, (k, x) ∈ l ↔ (Byk k /\ k.length <= 32 /\ x ≠ [] /\ Tr.get t (Ni.nib k) = x)
 e : ∀ p, Nb p -> Tr.get t p ≠ [] -> ∃ k, Byk k /\ k.length <= 32 /\ p = Ni.nib k
 v : ∀ k x, (k, x) ∈ l -> x.length <= 256
 ok : t = no \/ Tr.Ok 64 t
def putL (l : PList) (k x : List Int) : PList := if k.length <= 32 /\ 0 < x.length /\ x.length <= 256 then putR k x l else l
def delL (l : PList) (k : List Int) : PList := if k.length <= 32 then delR k l else l
theorem Rel.nil : Rel no [] := ⟨by simp [SrtP], fun k x => ⟨fun h => by simp at h, fun h => absurd h.2.2.2.symm h.2.2.1⟩, fun p _ h => absurd rfl h, (fun k x h => by simp at h), .inl rfl⟩
theorem Zka {k : List Int} (h : Byk k) : Nb (Ni.nib k) := Zwl h
theorem Zxo {t : Tr} {k x : List Int} (h : t = no \/ Tr.Ok 64 t) (hk : Byk k) : putT t k x = no \/ Tr.Ok 64 (putT t k x) := by
 unfold putT
 split
 ·rename_i hc
  exact .inr (Zwd t 64 _ _ h (Zka hk) (by rw [Ni.nib_len]; omega) (fun e => by rw [e] at hc; simp at hc))
 ·exact h
theorem Zhg {t : Tr} {k x : List Int} (h : t = no \/ Tr.Ok 64 t) (hk : Byk k) {q : List Int} (hq : Nb q) : Tr.get (putT t k x) q = if (k.length <= 32 /\ 0 < x.length /\ x.length <= 256) /\ q = Ni.nib k then x else Tr.get t q := by
 unfold putT
 split
 ·rename_i hc
  rw [Zs3 t 64 _ _ _ h (Zka hk) hq]
  by_cases e : q = Ni.nib k
  ·rw [if_pos e, if_pos ⟨hc, e⟩]
  ·rw [if_neg e, if_neg (fun z => e z.2)]
 ·rename_i hc
  rw [if_neg (fun z => hc z.1)]
theorem Zsg {a b : List Int} (h : Ni.nib a = Ni.nib b) : a = b := by rw [<- Ni.kk_nib a, h, Ni.kk_nib]
theorem Rel.put {t : Tr} {l : PList} (h : Rel t l) {k x : List Int} (hk : Byk k) : Rel (putT t k x) (putL l k x) := by
 by_cases hc : k.length <= 32 /\ 0 < x.length /\ x.length <= 256
 ·have el : putL l k x = putR k x l := if_pos hc
  have hx : x ≠ [] := fun e => by rw [e] at hc; simp at hc
  rw [el]
  refine ⟨Zn8 k x l h.s, fun k' x' => ?_, fun p hp hg => ?_, fun k' x' hm => ?_, Zxo h.ok hk⟩
  ·rw [Zhi k x l h.s]
   constructor
   ·rintro (⟨rfl, rfl⟩ | ⟨q1, q2⟩)
    ·exact ⟨hk, hc.1, hx, by rw [Zhg h.ok hk (Zka hk), if_pos ⟨hc, rfl⟩]⟩
    ·obtain ⟨h1, h2, h3, h4⟩ := (h.m k' x').1 q2
     exact ⟨h1, h2, h3, by rw [Zhg h.ok hk (Zka h1), if_neg (fun z => q1 (Zsg z.2))]; exact h4⟩
   ·rintro ⟨h1, h2, h3, h4⟩
    rw [Zhg h.ok hk (Zka h1)] at h4
    by_cases e : k' = k
    ·subst e
     rw [if_pos ⟨hc, rfl⟩] at h4
     exact .inl ⟨rfl, h4.symm⟩
    ·rw [if_neg (fun z => e (Zsg z.2))] at h4
     exact .inr ⟨e, (h.m k' x').2 ⟨h1, h2, h3, h4⟩⟩
  ·rw [Zhg h.ok hk hp] at hg
   by_cases e : p = Ni.nib k
   ·exact ⟨k, hk, hc.1, e⟩
   ·rw [if_neg (fun z => e z.2)] at hg
    exact h.e p hp hg
  ·rcases (Zhi k x l h.s k' x').1 hm with q | q
   ·rw [q.2]; exact hc.2.2
   ·exact h.v k' x' q.2
 ·have e1 : putL l k x = l := if_neg hc
  have e2 : putT t k x = t := if_neg hc
  rw [e1, e2]; exact h
theorem Rel.ents {t : Tr} {l : PList} (h : Rel t l) : entsF [] t = l := by
 rcases h.ok with rfl | hO
 ·rw [show entsF [] no = [] from rfl]
  cases l with
  | nil => rfl
  | cons e r =>
   obtain ⟨k, x⟩ := e
   obtain ⟨_, _, h3, h4⟩ := (h.m k x).1 (by simp)
   exact absurd h4.symm h3
 ·have hkey : ∀ p x, (p, x) ∈ entsR t -> ∃ k, Byk k /\ k.length <= 32 /\ p = Ni.nib k /\ (Ni.keyP p).1 = k := by
   intro p x hm
   obtain ⟨h1, h2, h3⟩ := (Zhj t hO p x).1 hm
   obtain ⟨k, k1, k2, k3⟩ := h.e p h1 (by rw [h2]; exact h3)
   exact ⟨k, k1, k2, k3, by rw [k3, Ni.key_nib k1]⟩
  rw [Zpa]
  refine Zlk _ _ ?_ h.s (fun y => ?_)
  ·unfold SrtP
   rw [List.pairwise_map]
   refine List.Pairwise.imp_of_mem ?_ (Zuo t)
   rintro ⟨p, x⟩ ⟨p', x'⟩ hm hm' hl
   obtain ⟨k, _, _, k3, k4⟩ := hkey p x hm
   obtain ⟨k', _, _, k3', k4'⟩ := hkey p' x' hm'
   show lessP (Ni.keyP ([] ++ p)).1 (Ni.keyP ([] ++ p')).1 = true
   rw [List.nil_append, List.nil_append, k4, k4', <- Ni.less_nib, <- k3, <- k3']
   exact hl
  ·obtain ⟨k, x⟩ := y
   constructor
   ·intro hm
    obtain ⟨⟨p, x'⟩, hm', he⟩ := List.mem_map.1 hm
    obtain ⟨k', k1, k2, k3, k4⟩ := hkey p x' hm'
    obtain ⟨h1, h2, h3⟩ := (Zhj t hO p x').1 hm'
    simp only [List.nil_append, k4, Prod.mk.injEq] at he
    obtain ⟨rfl, rfl⟩ := he
    exact (h.m k' x').2 ⟨k1, k2, h3, by rw [<- k3]; exact h2⟩
   ·intro hm
    obtain ⟨k1, k2, h3, h4⟩ := (h.m k x).1 hm
    refine List.mem_map.2 ⟨(Ni.nib k, x), (Zhj t hO _ _).2 ⟨Zka k1, h4, h3⟩, ?_⟩
    simp only [List.nil_append, Ni.key_nib k1]
def Sup (u : Tr) (A : List Int -> Prop) : Prop := ∀ q, Nb q -> Tr.get u q ≠ [] -> ∃ k, A k /\ Byk k /\ k.length <= 32 /\ q = Ni.nib k
theorem Rel.one {t u : Tr} {l : PList} (h : Rel t l) (hu : u = no \/ Tr.Ok 64 u) (hs : Sup u (fun k => ∃ x, (k, x) ∈ l)) (hv : ∀ k x, (k, x) ∈ l -> Tr.get u (Ni.nib k) = x) : u = t := by
 have hg : ∀ q, Nb q -> Tr.get u q = Tr.get t q := by
  intro q hq
  by_cases e : Tr.get u q = []
  ·rw [e]
   by_cases e2 : Tr.get t q = []
   ·exact e2.symm
   ·obtain ⟨k, k1, k2, k3⟩ := h.e q hq e2
    subst k3
    have := hv k _ ((h.m k _).2 ⟨k1, k2, e2, rfl⟩)
    rw [e] at this; exact this
  ·obtain ⟨k, ⟨x, hx⟩, k1, k2, k3⟩ := hs q hq e
   subst k3
   rw [hv k x hx, ((h.m k x).1 hx).2.2.2]
 rcases hu with rfl | hu
 ·rcases h.ok with h2 | h2
  ·exact h2.symm
  ·obtain ⟨q, q1, q2, q3⟩ := h2.some
   rw [<- hg q q1] at q3; exact absurd rfl q3
 ·rcases h.ok with h2 | h2
  ·subst h2
   obtain ⟨q, q1, q2, q3⟩ := hu.some
   rw [hg q q1] at q3; exact absurd rfl q3
  ·exact Tr.Ok.uniq hu h2 hg
end Go.Proofs.YtdkpilgelgjieaaGreat
namespace Go.Proofs.YtdkpilgelgjieaaGreat
open Go.RowKit
open Tr
def flatP (vs : List (Value × Value)) : List Value := vs.flatMap fun p => [p.1, p.2]
theorem Zdv : ∀ vs : List (Value × Value), (flatP vs).length = vs.length * 2
 | [] => rfl
 | p :: r => by have := Zdv r; simp only [flatP, List.flatMap_cons, List.length_append, List.length_cons, List.length_nil] at this ⊢; omega
theorem Zmk (a b : List (Value × Value)) : flatP (a ++ b) = flatP a ++ flatP b := by simp [flatP]
theorem Zqm : ∀ (vs : List (Value × Value)) (m : Nat), flatP (vs.drop m) = (flatP vs).drop (m * 2)
 | [], m => by simp [flatP]
 | p :: r, 0 => by simp
 | p :: r, m + 1 => by
  rw [List.drop_succ_cons, Zqm r m, show (m + 1) * 2 = m * 2 + 1 + 1 from by omega]
  simp [flatP]
theorem Zmj : ∀ (vs : List (Value × Value)) (j : Nat) (p : Value × Value), vs[j]? = some p -> (flatP vs)[j * 2]? = some p.1 /\ (flatP vs)[j * 2 + 1]? = some p.2
 | [], j, p, h => by simp at h
 | q :: r, 0, p, h => by simp at h; subst h; simp [flatP]
 | q :: r, j + 1, p, h => by
  have := Zmj r j p (by simpa using h)
  rw [show (j + 1) * 2 = j * 2 + 1 + 1 from by omega]
  simpa [flatP] using this
def Gp2 (K : Nat -> Prop) (w : World) (p : Value × Value) (e : List Int × List Int) : Prop := ∃ a n c a' n' c', p.1 = .slice a n c /\ p.2 = .slice a' n' c' /\ Sk K w a n c e.1 /\ Sk K w a' n' c' e.2
theorem Gp2.mono {K K' : Nat -> Prop} {w : World} {p : Value × Value} {e : List Int × List Int} (h : Gp2 K w p e) (hK : ∀ b, K b -> K' b) : Gp2 K' w p e := by
 obtain ⟨a, n, c, a', n', c', h1, h2, h3, h4⟩ := h
 exact ⟨a, n, c, a', n', c', h1, h2, h3.mono hK, h4.mono hK⟩
theorem Gp2.go {K : Nat -> Prop} {w w' : World} {p : Value × Value} {e : List Int × List Int} (h : Gp2 K w p e) (hb : Below w.heap.size w w') : Gp2 K w' p e := by
 obtain ⟨a, n, c, a', n', c', h1, h2, h3, h4⟩ := h
 exact ⟨a, n, c, a', n', c', h1, h2, h3.go hb, h4.go hb⟩
structure PAt (K : Nat -> Prop) (w : World) (a : Option Addr) (n c : Nat) (vs : List (Value × Value)) (l : PList) : Prop where
 vl : vs.length = n
 ll : l.length = n
 nc : n <= c
 nil : a = none -> n = 0 /\ c = 0
 row : ∀ j u, (flatP vs)[j]? = some u -> ∃ g off, a = some ⟨g, off, none⟩ /\ w.cell? ⟨g, off + j, none⟩ = some u
 gd : ∀ (j : Nat) (p : Value × Value) (e : List Int × List Int), vs[j]? = some p -> l[j]? = some e -> Gp2 K w p e
 rk : ∀ x, a = some x -> 0 < n -> K x.block
section
variable {K : Nat → Prop} {w w' : World} {a : Option Addr} {n c : Nat} {vs : List (Value × Value)} {l : PList}
theorem PAt.go (h : PAt K w a n c vs l) (hb : Below w.heap.size w w') : PAt K w' a n c vs l := ⟨h.vl, h.ll, h.nc, h.nil, fun j u hj => by
 obtain ⟨g, off, h1, h2⟩ := h.row j u hj
 exact ⟨g, off, h1, (hb.cell (p := ⟨g, off + j, none⟩) (block_lt_of_cell h2)).trans h2⟩, fun j p e h1 h2 => (h.gd j p e h1 h2).go hb, h.rk⟩
theorem PAt.drew (h : PAt K w a n c vs l) : PAt K w.drew a n c vs l := h.go (Below.refl _ _).drew
theorem PAt.mono {K' : Nat -> Prop} (h : PAt K w a n c vs l) (hK : ∀ b, K b -> K' b) : PAt K' w a n c vs l := ⟨h.vl, h.ll, h.nc, h.nil, h.row, fun j p e h1 h2 => (h.gd j p e h1 h2).mono hK, fun x hx hn => hK _ (h.rk x hx hn)⟩
theorem PAt.old (h : PAt K w a n c vs l) : PAt (fun b => K b /\ b < w.heap.size) w a n c vs l := ⟨h.vl, h.ll, h.nc, h.nil, h.row, fun j p e h1 h2 => by
 obtain ⟨a, n, c, a', n', c', q1, q2, q3, q4⟩ := h.gd j p e h1 h2
 exact ⟨a, n, c, a', n', c', q1, q2, ⟨q3.ag, fun x hx hn => ⟨q3.k x hx hn, q3.old hx hn⟩⟩, ⟨q4.ag, fun x hx hn => ⟨q4.k x hx hn, q4.old hx hn⟩⟩⟩, fun x hx hn => by
 refine ⟨h.rk x hx hn, ?_⟩
 obtain ⟨u, hu⟩ : ∃ u, (flatP vs)[0]? = some u := ⟨_, List.getElem?_eq_getElem (by rw [Zdv, h.vl]; omega)⟩
 obtain ⟨g, off, e1, e2⟩ := h.row 0 u hu
 rw [hx] at e1; cases e1
 exact block_lt_of_cell e2⟩
theorem PAt.at (h : PAt K w a n c vs l) {j : Nat} (hj : j < n) : ∃ g off a1 n1 c1 a2 n2 c2 k x, a = some ⟨g, off, none⟩ /\ l[j]? = some (k, x) /\ w.cell? ⟨g, off + j * 2, none⟩ = some (.slice a1 n1 c1) /\ w.cell? ⟨g, off + j * 2 + 1, none⟩ = some (.slice a2 n2 c2) /\ Sk K w a1 n1 c1 k /\ Sk K w a2 n2 c2 x := by
 obtain ⟨p, hp⟩ : ∃ p, vs[j]? = some p := ⟨_, List.getElem?_eq_getElem (by rw [h.vl]; exact hj)⟩
 obtain ⟨e, he⟩ : ∃ e, l[j]? = some e := ⟨_, List.getElem?_eq_getElem (by rw [h.ll]; exact hj)⟩
 obtain ⟨a1, n1, c1, a2, n2, c2, h1, h2, h3, h4⟩ := h.gd j p e hp he
 obtain ⟨f1, f2⟩ := Zmj vs j p hp
 obtain ⟨g, off, e1, e2⟩ := h.row _ _ f1
 obtain ⟨g', off', e1', e2'⟩ := h.row _ _ f2
 rw [e1] at e1'
 cases e1'
 exact ⟨g, off, a1, n1, c1, a2, n2, c2, e.1, e.2, e1, he, by rw [e2, h1], by rw [Nat.add_assoc, e2', h2], h3, h4⟩
end
def OwnL (X : Nat -> Prop) (w : World) (base : Nat) (v : Value) (l : PList) : Prop := (∀ b, base <= b -> X b) /\ ∃ vs : List (Value × Value), vs.length = l.length /\ w.ownsRow base 34 2 v l.length (flatP vs) /\ ∀ (j : Nat) (p : Value × Value) (e : List Int × List Int), vs[j]? = some p -> l[j]? = some e -> Gp2 (fun b => v.ownBlock ≠ some b /\ X b) w p e
theorem OwnL.pat {X : Nat -> Prop} {w : World} {base : Nat} {v : Value} {l : PList} (h : OwnL X w base v l) : ∃ a c vs, v = .slice a l.length c /\ PAt X w a l.length c vs l := by
 obtain ⟨hX, vs, h1, ⟨h2, h3⟩, h4⟩ := h
 rcases h3 with ⟨rfl, h5⟩ | ⟨g, cap, cur, rfl, hbg, hg, hc1, hc2, hc3, hc4⟩
 ·refine ⟨none, 0, vs, by rw [h5], h1, rfl, by omega, fun _ => ⟨h5, rfl⟩, fun j u hj => ?_, fun j p e q1 q2 => (h4 j p e q1 q2).mono (fun _ h => h.2), fun x hx => by cases hx⟩
  have : vs = [] := List.eq_nil_of_length_eq_zero (by omega)
  subst this; simp [flatP] at hj
 ·refine ⟨some ⟨g, 0, none⟩, cap, vs, rfl, h1, rfl, hc1, (fun e => by cases e), fun j u hj => ⟨g, 0, rfl, ?_⟩, fun j p e q1 q2 => (h4 j p e q1 q2).mono (fun _ h => h.2), fun x hx _ => by cases hx; exact hX _ hbg⟩
  rw [cell_of_row _ _ _ _ _ _ hg, Nat.zero_add]
  have hlt : j < (flatP vs).length := (List.getElem?_eq_some_iff.1 hj).1
  rw [Zdv, h1] at hlt
  rw [<- hc4, List.getElem?_take_of_lt (by omega)] at hj
  rw [<- Array.getElem?_toList]; exact hj
theorem Zzq : ∃ i, Tryz.prog.info? 34 = some i /\ i.zero = some (.agg #[.slice none 0 0, .slice none 0 0]) /\ i.size = 2 /\ i.bytes = 48 := by
 have h : (Tryz.prog.info? 34).map (fun i => (i.zero, i.size, i.bytes)) = some (some (.agg #[.slice none 0 0, .slice none 0 0]), 2, 48) := by kernel_rfl
 cases hq : Tryz.prog.info? 34 with
 | none => rw [hq] at h; simp at h
 | some i => rw [hq] at h; simp at h; exact ⟨i, rfl, h.1, h.2.1, h.2.2⟩
theorem OwnL.far {X : Nat -> Prop} {w w' : World} {base : Nat} {v : Value} {l : PList} (h : OwnL X w base v l) (hb : Below w.heap.size w w') : OwnL X w' base v l := by
 obtain ⟨hX, vs, h1, ⟨h2, h3⟩, h4⟩ := h
 refine ⟨hX, vs, h1, ⟨h2, ?_⟩, fun j p e q1 q2 => (h4 j p e q1 q2).go hb⟩
 rcases h3 with q | ⟨g, cap, cur, e1, e2, e3, e4⟩
 ·exact .inl q
 ·exact .inr ⟨g, cap, cur, e1, e2, (hb.block g (lt_of_get e3)).trans e3, e4⟩
theorem OwnL.own {X : Nat -> Prop} {w : World} {base : Nat} {v : Value} {l : PList} (h : OwnL X w base v l) : ∀ k, v.ownBlock = some k -> base <= k /\ k < w.heap.size := by
 obtain ⟨hX, vs, h1, ⟨h2, h3⟩, h4⟩ := h
 intro k hk
 rcases h3 with ⟨rfl, _⟩ | ⟨g, cap, cur, rfl, hbg, hg, _⟩
 ·cases hk
 ·have e : g = k := by simpa [Value.ownBlock] using hk
  subst e
  exact ⟨hbg, lt_of_get hg⟩
theorem appQ {X : Nat -> Prop} {w : World} {base : Nat} {v : Value} {l : PList} (hown : OwnL X w base v l) {K : Nat -> Prop} {a : Option Addr} {m c : Nat} {vs' : List (Value × Value)} {l' : PList} (h : PAt K w a m c vs' l') (hK : ∀ b, K b -> v.ownBlock ≠ some b /\ X b) (hlen : l.length + m <= 2932031007400) (hbase : base <= w.heap.size) :
  ∃ v' w', (∀ ty, (Builtin.append_ #[22, 22] ty #[v, .slice a m c]).run Tryz.prog w = .ok v' w') /\ OwnL X w' base v' (l ++ l') /\ Below base w w' /\ (∀ k, k < w.heap.size -> v.ownBlock ≠ some k -> w'.heap[k]? = w.heap[k]?) /\ (v'.ownBlock = v.ownBlock \/ v'.ownBlock = some w.heap.size) := by
 obtain ⟨i, hi, hz, hsz, hby⟩ := Zzq
 have hOw := hown.own
 obtain ⟨hX, vs, h1, h2, h4⟩ := id hown
 cases a with
 | none =>
  obtain ⟨rfl, rfl⟩ := h.nil rfl
  have hn0 : l' = [] := List.eq_nil_of_length_eq_zero h.ll
  subst hn0
  exact ⟨v, w, fun ty => run_append_owned_none w base 22 ty 34 i 2 Tryz.underlying22 hi v _ _ h2, by rw [List.append_nil]; exact hown, Below.refl _ _, fun _ _ _ => rfl, .inl rfl⟩
 | some ad =>
  have hc : ∀ j u, (flatP vs')[j]? = some u -> w.cell? (ad.add j) = some u := by
   intro j u hj
   obtain ⟨g, off, e1, e2⟩ := h.row j u hj
   cases e1
   rw [Zax]; exact e2
  have hone : ∀ u ∈ flatP vs', u.oneCell' = true := by
   intro u hu
   obtain ⟨p, hp, hup⟩ := List.mem_flatMap.1 hu
   obtain ⟨j, hj, e⟩ := List.mem_iff_getElem.1 hp
   have hjl : j < l'.length := by rw [h.ll, <- h.vl]; exact hj
   obtain ⟨a1, n1, c1, a2, n2, c2, q1, q2, _, _⟩ := h.gd j p l'[j] (by rw [List.getElem?_eq_getElem hj, e]) (List.getElem?_eq_getElem hjl)
   simp at hup
   rcases hup with q | q
   ·rw [q, q1]; rfl
   ·rw [q, q2]; rfl
  obtain ⟨v', w', r1, r2, r3, _, r5⟩ := run_append_own_at w base 22 0 34 i _ 2 48 Tryz.underlying22 hi hz hsz hby rfl (by decide) v l.length (flatP vs) h2 ad m c (flatP vs') (by rw [Zdv, h.vl]) hc hone (by unfold maxLen; omega) (by omega) hbase
  have hkeep : ∀ {K' : Nat -> Prop} {p : Value × Value} {e : List Int × List Int}, (∀ b, K' b -> v.ownBlock ≠ some b /\ X b) -> Gp2 K' w p e -> Gp2 (fun b => v'.ownBlock ≠ some b /\ X b) w' p e := by
   intro K' p e hK' hg
   obtain ⟨a1, n1, c1, a2, n2, c2, q1, q2, q3, q4⟩ := hg
   have hsk : ∀ {a : Option Addr} {n c : Nat} {bs : List Int}, Sk K' w a n c bs -> Sk (fun b => v'.ownBlock ≠ some b /\ X b) w' a n c bs := by
    intro a n c bs hs
    refine ⟨⟨?_, hs.ag.nil, hs.ag.l, hs.ag.b⟩, fun x hx hn => ?_⟩
    ·rcases hs.ag.i with q | ⟨gb, off, q1, q2, q3, q4, q5, q7⟩
     ·exact .inl q
     ·refine .inr ⟨gb, off, q1, q2, q3, q4, q5, fun j hj => ?_⟩
      rw [<- q7 j hj]
      exact World.cell?_of_block (r3.block gb (block_lt_of_cell (q7 j hj)) (fun e => (hK' _ (hs.k _ q1 q3)).1 e.symm))
    ·refine ⟨?_, (hK' _ (hs.k x hx hn)).2⟩
     rcases r5 with q | q
     ·rw [q]; exact (hK' _ (hs.k x hx hn)).1
     ·rw [q]; intro e; have := hs.old hx hn; simp at e; omega
   exact ⟨a1, n1, c1, a2, n2, c2, q1, q2, hsk q3, hsk q4⟩
  refine ⟨v', w', fun ty => r1, ⟨hX, vs ++ vs', by simp [h1, h.vl, h.ll], ?_, ?_⟩, ?_, fun k hk hn => r3.block k hk (fun e => hn e.symm), r5⟩
  ·rw [List.length_append, h.ll, Zmk]; exact r2
  ·intro j p e q1 q2
   by_cases hj : j < vs.length
   ·rw [List.getElem?_append_left hj] at q1
    rw [List.getElem?_append_left (by omega)] at q2
    exact hkeep (fun b hb => hb) (h4 j p e q1 q2)
   ·rw [List.getElem?_append_right (by omega)] at q1
    rw [List.getElem?_append_right (by omega), <- h1] at q2
    exact hkeep hK (h.gd _ p e q1 q2)
  ·exact (Below.refl _ _).grown r3 hbase (fun k hk => (hOw k hk).1)
theorem appP {X : Nat -> Prop} {w : World} {base : Nat} {v : Value} {l : PList} (hown : OwnL X w base v l) {K : Nat -> Prop} {a : Option Addr} {m c : Nat} {vs' : List (Value × Value)} {l' : PList} (h : PAt K w a m c vs' l') (hK : ∀ b, K b -> v.ownBlock ≠ some b /\ X b) (hlen : l.length + m <= 2932031007400) (hbase : base <= w.heap.size) :
  ∃ v' w', (∀ ty, (Builtin.append_ #[22, 22] ty #[v, .slice a m c]).run Tryz.prog w = .ok v' w') /\ OwnL X w' base v' (l ++ l') /\ Below base w w' := by
 obtain ⟨v', w', h1, h2, h3, _⟩ := appQ hown h hK hlen hbase
 exact ⟨v', w', h1, h2, h3⟩
theorem PAt.one {K : Nat -> Prop} {w w' : World} {g : Nat} {a a' : Option Addr} {n c n' c' : Nat} {k x : List Int} (h : New w w' g #[.slice a n c, .slice a' n' c'] 34) (h1 : Sk K w a n c k) (h2 : Sk K w a' n' c' x) (hKg : K g) : PAt K w' (some ⟨g, 0, none⟩) 1 1 [(.slice a n c, .slice a' n' c')] [(k, x)] := by
 refine ⟨rfl, rfl, Nat.le_refl _, (fun e => by cases e), fun j u hj => ⟨g, 0, rfl, ?_⟩, (fun j p e q1 q2 => ?_), fun x hx _ => by cases hx; exact hKg⟩
 ·rw [cell_of_row _ _ _ _ _ _ h.row, Nat.zero_add]
  match j, hj with
  | 0, hj => exact hj
  | 1, hj => exact hj
  | j + 2, hj => simp [flatP] at hj
 ·match j, q1, q2 with
  | 0, q1, q2 =>
   simp at q1 q2
   subst q1 q2
   exact ⟨a, n, c, a', n', c', rfl, rfl, h1.go h.below, h2.go h.below⟩
  | j + 1, q1, _ => simp at q1
end Go.Proofs.YtdkpilgelgjieaaGreat
namespace Go.Proofs.YtdkpilgelgjieaaGreat.Ni
open Go.RowKit
theorem Zse (b : List Int) (j : Nat) (hj : j < b.length) : nib (b.take (j + 1)) = (nib (b.take j) ++ [b.getD j 0 / 16]) ++ [b.getD j 0 % 16] := by
 rw [Zoq hj, List.append_assoc]; rfl
set_option maxHeartbeats 1000000 in
theorem rof_any (a : Option Addr) (n c : Nat) (b : List Int) (w : World) (h : Ag w a n c b) (hn : 2 * n <= 140737488355328) :
  Calls Tryz.prog 36 #[.slice a n c] w fun e w' => (∃ a' c', e = .returned (.slice a' (2 * n) c') /\ 2 * n <= c' /\ c' <= maxLen /\ Ag w' a' (2 * n) c' (nib b) /\ (0 < 2 * n -> ∀ g off, a' = some ⟨g, off, none⟩ -> w.heap.size <= g)) /\ Below w.heap.size w w' := by
 have HL := Hid.mk h.l
 have HC := Hid.mk (fun h0 => ag_head h h0)
 have HB := Hid.mk h.b
 clear h
 go_enter Tryz.func36, Tryz.ntmps36
 go_wp2_with fail
 go_loopw [3, 4] (fun v i w' => ∃ j : Nat, j <= n /\ i = .int .i64 j /\ OwnB w' w.heap.size v (nib (b.take j)) /\ Below w.heap.size w w') (fun _ i _ => n - (intOf i).toNat)
 case atStart => exact ⟨0, by omega, rfl, ownB_nil _ _, Below.refl _ _⟩
 case round =>
  obtain ⟨j, hj, rfl, hown, hb⟩ := hrel
  have HO := Hid.mk hown
  have HBW := Hid.mk hb
  clear hown hb
  by_cases hlt : j < n
  ·obtain ⟨g, off, rfl, hnc, hcm, hcs⟩ := HC.out (by omega)
   unfold maxLen at hcm
   have hcell0 := hcs j hlt
   have hcell := (HBW.out.cell (p := ⟨g, off + j, none⟩) (block_lt_of_cell hcell0)).trans hcell0
   have hjb : j < b.length := by have := HL.out; omega
   have hx := HB.out _ (getD_mem hjb)
   have HN := Hid.mk (Zse b j hjb)
   have HNL : Hid ((nib (b.take j)).length = 2 * j) := Hid.mk (by rw [nib_len, List.length_take]; omega)
   generalize b.getD j 0 = x at hcell hcell0 hx HN
   obtain ⟨hx0, hx1⟩ := hx
   have hji : (j : Int) < n := by omega
   have HO2 : Hid (∀ o : Obj, OwnB (wr.alloc o) w.heap.size u3 (nib (b.take j))) := Hid.mk fun o => OwnB.alloc HO.out o
   have HSZ := Hid.mk HBW.out.size
   have HC0 := Hid.mk hcell0
   clear HO hcs hjb hcell0
   go_wp2_with (first
    | (at_builtin; refine Zbx rfl (.tmp 11) (.tmp 17) rfl w.heap.size _ (nib (b.take j)) rfl (HO2.out _) (some ⟨wr.heap.size, 0, none⟩) 1 1 [x / 16] rfl (in0_one wr _) (fun h => by cases h) rfl (by rw [HNL.out]; omega) (by have := HSZ.out; simp; omega) ?_; intro v1 w1 o1 hb1; have HO1 := Hid.mk o1; have HB1 := Hid.mk ((HBW.out.alloc HSZ.out _).trans hb1); clear o1 hb1; have hcell1 := (HB1.out.cell (p := ⟨g, off + j, none⟩) (block_lt_of_cell HC0.out)).trans HC0.out)
    | (at_builtin; refine Zbx rfl (.tmp 19) (.tmp 25) rfl w.heap.size _ (nib (b.take j) ++ [x / 16]) rfl (OwnB.alloc HO1.out _) (some ⟨w1.heap.size, 0, none⟩) 1 1 [x % 16] rfl (in0_one w1 _) (fun h => by cases h) rfl (by rw [List.length_append, HNL.out]; simp; omega) (by have := HB1.out.size; simp; omega) ?_; intro v2 w2 o2 hb2; rw [<- HN.out] at o2; have HO3 := Hid.mk o2; have HB2 := Hid.mk ((HB1.out.alloc HB1.out.size _).trans hb2); clear o2 hb2))
   exact ⟨⟨j + 1, by omega, by simp, HO3.out, HB2.out⟩, by simp [intOf]; omega⟩
  ·have hji : ¬ (j : Int) < n := by omega
   have hbt : b.take j = b := List.take_of_length_le (by have := HL.out; omega)
   rw [hbt] at HO
   obtain ⟨a', c', rfl, h1, h2, h3, h4⟩ := HO.out.cutable (Zsf HB.out)
   have hln : (nib b).length = 2 * n := by rw [nib_len, HL.out]
   rw [hln] at h1 h3 h4 ⊢
   have H4 := Hid.mk (show 0 < 2 * n -> ∀ g off, a' = some ⟨g, off, none⟩ -> w.heap.size <= g from fun h0 g off e => by obtain ⟨g', off', cur, e', hg, _⟩ := h4 h0; rw [e] at e'; cases e'; exact hg)
   have H1 := Hid.mk h1
   have H2 := Hid.mk h2
   have H3 := Hid.mk h3
   clear hbt h1 h2 h3 h4 hln
   go_wp2_with fail
   go_ret
   exact ⟨⟨a', c', rfl, H1.out, H2.out, H3.out, by first | exact H4.out | (intro h0; exact H4.out (by omega))⟩, HBW.out⟩
end Go.Proofs.YtdkpilgelgjieaaGreat.Ni

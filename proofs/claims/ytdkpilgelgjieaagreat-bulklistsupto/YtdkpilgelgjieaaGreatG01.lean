/- A region that draws its order and in which a loop's round is called. -/
import Derived.Test.YtdkpilgelgjieaaGreatG00
import Derived.OrdersIn
set_option linter.unusedVariables false
set_option maxRecDepth 100000
namespace Go.Proofs.YtdkpilgelgjieaaGreat
open Go.RowKit
def DI (m : Nat) (P : Program) (ds : List Deferred) (n : Nat) (Q : Exit -> Act -> World -> Prop) (ops : Array Oper) (fuel : Nat) (listed : Array Bool) (env : Env) (w : World) : Prop := ∀ a, Frm ds n env a -> wpAnyIn Fence.wide m P .any ops Q fuel listed a w
def AI (m : Nat) (P : Program) (ds : List Deferred) (n : Nat) (Q : Exit -> Act -> World -> Prop) (ops : Array Oper) (fuel : Nat) (listed : Array Bool) (env : Env) (w : World) (rs : List Nat) : Prop := ∀ a, Frm ds n env a -> AllReadyIn Fence.wide m P .any ops Q fuel listed a w rs
section
variable {m : Nat} {P : Program} {ds : List Deferred} {n : Nat} {Q : Exit → Act → World → Prop} {env : Env} {w w' : World} {ops : Array Oper} {o : Oper} {fuel : Nat} {listed : Array Bool} {rs : List Nat}
end
end Go.Proofs.YtdkpilgelgjieaaGreat
namespace Go.Proofs.YtdkpilgelgjieaaGreat.Ni
def isB (b : List Int) : Prop := ∀ x ∈ b, 0 <= x /\ x < 256
theorem Zoz {x : Int} {r : List Int} (h : isB (x :: r)) : (0 <= x /\ x < 256) /\ isB r := ⟨h x (by simp), fun y hy => h y (by simp [hy])⟩
def nib : List Int -> List Int
 | [] => []
 | b :: r => b / 16 :: b % 16 :: nib r
theorem nib_len : ∀ k : List Int, (nib k).length = 2 * k.length
 | [] => rfl
 | b :: r => by simp only [nib, List.length_cons, nib_len r]; omega
theorem Zsi : ∀ a b : List Int, nib (a ++ b) = nib a ++ nib b
 | [], _ => rfl
 | x :: a, b => by simp only [List.cons_append, nib, Zsi a b]
theorem nib_bd : ∀ k : List Int, isB k -> ∀ x ∈ nib k, 0 <= x /\ x <= 15
 | [], _, x, h => by cases h
 | b :: r, hb, x, h => by
  obtain ⟨h1, h2⟩ := Zoz hb
  rcases List.mem_cons.1 h with rfl | h
  ·omega
  rcases List.mem_cons.1 h with rfl | h
  ·omega
  ·exact nib_bd r h2 x h
theorem Zsf {k : List Int} (h : isB k) : isB (nib k) := fun x hx => by have := nib_bd k h x hx; omega
theorem getD_mem {l : List Int} {i : Nat} (h : i < l.length) : l.getD i 0 ∈ l := by
 rw [List.getD, List.getElem?_eq_getElem h]; exact List.getElem_mem _
theorem Zoy {b : List Int} (h : isB b) (i : Nat) : isB (b.drop i) := fun x hx => h x (List.mem_of_mem_drop hx)
theorem take_snoc {b : List Int} {i : Nat} (hi : i < b.length) : b.take (i + 1) = b.take i ++ [b.getD i 0] := by
 rw [List.take_add_one, List.getElem?_eq_getElem hi]; simp [List.getD, List.getElem?_eq_getElem hi]
theorem Zoq {b : List Int} {i : Nat} (hi : i < b.length) : nib (b.take (i + 1)) = nib (b.take i) ++ [b.getD i 0 / 16, b.getD i 0 % 16] := by
 rw [take_snoc hi, Zsi]; rfl
def rightP (p : List Int) : Bool := p.all fun x => decide (x <= 15)
theorem rightP_iff {p : List Int} : rightP p = true ↔ ∀ x ∈ p, x <= 15 := by simp [rightP]
theorem Zh3 {k : List Int} (h : isB k) : rightP (nib k) = true := rightP_iff.2 fun x hx => (nib_bd k h x hx).2
theorem Zoe {p : List Int} {j : Nat} (h : j < p.length) (hx : p.getD j 0 > 15) : rightP p = false := by
 cases e : rightP p with
 | false => rfl
 | true => have := rightP_iff.1 e _ (getD_mem h); omega
theorem Zlt {p : List Int} (h : ∀ i, i < p.length -> p.getD i 0 <= 15) : rightP p = true := rightP_iff.2 fun x hx => by
 obtain ⟨i, hi, rfl⟩ := List.getElem_of_mem hx
 have := h i hi
 rwa [List.getD, List.getElem?_eq_getElem hi] at this
theorem Zhb {p : List Int} (h : rightP p = true) {i : Nat} (hi : i < p.length) : p.getD i 0 <= 15 := rightP_iff.1 h _ (getD_mem hi)
theorem Zlu {p q : List Int} : rightP (p ++ q) = (rightP p && rightP q) := by simp [rightP]
def kk : List Int -> List Int
 | a :: b :: r => (16 * a + b) :: kk r
 | _ => []
theorem kk_nib : ∀ k : List Int, kk (nib k) = k
 | [] => rfl
 | b :: r => by simp only [nib, kk, kk_nib r]; congr 1; omega
theorem Zow : ∀ p : List Int, (kk p).length = p.length / 2
 | [] => rfl
 | [_] => by simp [kk]
 | a :: b :: r => by simp only [kk, List.length_cons, Zow r]; omega
theorem Zsr : ∀ (p : List Int) (i : Nat), 2 * i + 1 < p.length -> (kk p).getD i 0 = 16 * p.getD (2 * i) 0 + p.getD (2 * i + 1) 0
 | [], i, h => by simp at h
 | [_], i, h => by simp at h
 | a :: b :: r, 0, h => rfl
 | a :: b :: r, i + 1, h => by
  have h2 : 2 * i + 1 < r.length := by simp at h; omega
  have := Zsr r i h2
  simp only [kk]
  rw [show 2 * (i + 1) = 2 * i + 1 + 1 from by omega]
  simpa using this
theorem Zwm : ∀ p : List Int, isB p -> rightP p = true -> p.length % 2 = 0 -> nib (kk p) = p
 | [], _, _, _ => rfl
 | [_], _, _, h => by simp at h
 | a :: b :: r, hb, hr, hl => by
  have h0 := hb a (by simp)
  have h1 := rightP_iff.1 hr b (by simp)
  have h2 := hb b (by simp)
  have h3 : isB r := fun x hx => hb x (by simp [hx])
  have h4 : rightP r = true := rightP_iff.2 fun x hx => rightP_iff.1 hr x (by simp [hx])
  simp only [kk, nib, Zwm r h3 h4 (by simp at hl; omega)]
  rw [show (16 * a + b) / 16 = a from by omega, show (16 * a + b) % 16 = b from by omega]
theorem Zsq : ∀ p : List Int, isB p -> rightP p = true -> isB (kk p)
 | [], _, _ => fun x hx => by cases hx
 | [_], _, _ => fun x hx => by simp [kk] at hx
 | a :: b :: r, hb, hr => by
  have h0 := hb a (by simp)
  have h5 := rightP_iff.1 hr a (by simp)
  have h1 := rightP_iff.1 hr b (by simp)
  have h2 := hb b (by simp)
  have ih := Zsq r (fun x hx => hb x (by simp [hx])) (rightP_iff.2 fun x hx => rightP_iff.1 hr x (by simp [hx]))
  intro x hx
  simp only [kk] at hx
  rcases List.mem_cons.1 hx with rfl | hx
  ·omega
  ·exact ih x hx
def keyP (p : List Int) : List Int × Bool := if rightP p = true /\ p.length % 2 = 0 then (kk p, true) else ([], false)
theorem Zhm {p : List Int} (h : rightP p = true) (h2 : p.length % 2 = 0) : keyP p = (kk p, true) := if_pos ⟨h, h2⟩
theorem Ziv {p : List Int} (h : ¬ (rightP p = true /\ p.length % 2 = 0)) : keyP p = ([], false) := if_neg h
theorem key_nib {k : List Int} (h : isB k) : keyP (nib k) = (k, true) := by
 rw [Zhm (Zh3 h) (by rw [nib_len]; omega), kk_nib]
def hdP (n : Nat) (leaf : Bool) : List Int := if n % 2 = 0 then [if leaf then 2 else 0, 0] else [(if leaf then 2 else 0) + 1]
theorem hd_len (n : Nat) (leaf : Bool) : (hdP n leaf).length = 2 - n % 2 := by
 unfold hdP
 split
 ·rename_i h; rw [h]; rfl
 ·rename_i h; rw [show n % 2 = 1 from by omega]; rfl
theorem Zzx (n : Nat) (leaf : Bool) : isB (hdP n leaf) := by
 unfold hdP
 cases leaf <;> split <;> (intro x hx; simp at hx; omega)
theorem Zo2 (n : Nat) (leaf : Bool) : rightP (hdP n leaf) = true := by
 refine rightP_iff.2 ?_
 unfold hdP
 cases leaf <;> split <;> (intro x hx; simp at hx; omega)
def packP (p : List Int) (leaf : Bool) : List Int × Nat := if rightP p = true then (kk (hdP p.length leaf ++ p), 0) else ([], 40)
theorem packP_yes {p : List Int} {leaf : Bool} (h : rightP p = true) : packP p leaf = (kk (hdP p.length leaf ++ p), 0) := if_pos h
theorem Zu2 {p : List Int} {leaf : Bool} (h : ¬ rightP p = true) : packP p leaf = ([], 40) := if_neg h
theorem Zj2 {p : List Int} {leaf : Bool} (h : rightP p = true) : rightP (hdP p.length leaf ++ p) = true := by rw [Zlu, Zo2, h]; rfl
theorem Zmi (p : List Int) (leaf : Bool) : (hdP p.length leaf ++ p).length % 2 = 0 := by rw [List.length_append, hd_len]; omega
theorem Zk7 {p : List Int} {leaf : Bool} (h : isB p) : isB (hdP p.length leaf ++ p) := by
 intro x hx
 rcases List.mem_append.1 hx with hx | hx
 ·exact Zzx _ _ x hx
 ·exact h x hx
theorem Zom {p : List Int} {leaf : Bool} : keyP (hdP p.length leaf ++ p) = if rightP p = true then (kk (hdP p.length leaf ++ p), true) else ([], false) := by
 by_cases h : rightP p = true
 ·rw [if_pos h, Zhm (Zj2 h) (Zmi _ _)]
 ·rw [if_neg h, Ziv]
  rintro ⟨h1, _⟩
  rw [Zlu, Zo2] at h1
  exact h (by simpa using h1)
theorem pack_len {p : List Int} {leaf : Bool} : (kk (hdP p.length leaf ++ p)).length = p.length / 2 + 1 := by rw [Zow, List.length_append, hd_len]; omega
abbrev badU (c : Int) : Prop := c / 16 > 3 \/ (c / 16 % 2 = 0 /\ c % 16 ≠ 0)
def unpP : List Int -> List Int × Bool × Nat
 | [] => ([], false, 40)
 | c :: r => if badU c then ([], false, 40) else ((nib (c :: r)).drop (if c / 16 % 2 = 0 then 2 else 1), decide (c / 16 ≥ 2), 0)
theorem Zq9 : unpP [] = ([], false, 40) := rfl
theorem Zg6 (c : Int) (r : List Int) : unpP (c :: r) = if badU c then ([], false, 40) else ((nib (c :: r)).drop (if c / 16 % 2 = 0 then 2 else 1), decide (c / 16 ≥ 2), 0) := rfl
theorem Zra {b : List Int} (h : 0 < b.length) (hb : badU (b.getD 0 0)) : unpP b = ([], false, 40) := by
 cases b with
 | nil => simp at h
 | cons c r => exact if_pos hb
theorem Zn4 {b : List Int} (h : 0 < b.length) (hb : ¬ badU (b.getD 0 0)) : unpP b = ((nib b).drop (if b.getD 0 0 / 16 % 2 = 0 then 2 else 1), decide (b.getD 0 0 / 16 ≥ 2), 0) := by
 cases b with
 | nil => simp at h
 | cons c r => exact if_neg hb
theorem unp_le (b : List Int) : (unpP b).1.length <= 2 * b.length := by
 cases b with
 | nil => exact Nat.zero_le _
 | cons c r =>
  rw [Zg6]
  split
  ·exact Nat.zero_le _
  ·rw [List.length_drop, nib_len]; omega
theorem unp_pack {p : List Int} {leaf : Bool} (hb : isB p) (h : rightP p = true) : unpP (kk (hdP p.length leaf ++ p)) = (p, leaf, 0) := by
 have e := Zwm _ (Zk7 (leaf := leaf) hb) (Zj2 (leaf := leaf) h) (Zmi p leaf)
 by_cases hp : p.length % 2 = 0
 ·have e1 : hdP p.length leaf = [if leaf then 2 else 0, 0] := if_pos hp
  rw [e1] at e ⊢
  simp only [List.cons_append, List.nil_append, kk] at e ⊢
  rw [Zg6]
  have e2 : ¬ badU (16 * (if leaf = true then 2 else 0) + 0) := by unfold badU; cases leaf <;> simp
  rw [if_neg e2, e]
  cases leaf <;> simp
 ·have e1 : hdP p.length leaf = [(if leaf then 2 else 0) + 1] := if_neg hp
  rw [e1] at e ⊢
  cases p with
  | nil => simp at hp
  | cons y r =>
   have hy := rightP_iff.1 h y (by simp)
   have hy0 := hb y (by simp)
   simp only [List.cons_append, List.nil_append, kk] at e ⊢
   rw [Zg6]
   have q1 : (16 * ((if leaf = true then 2 else 0) + 1) + y) / 16 = (if leaf = true then 2 else 0) + 1 := by cases leaf <;> simp <;> omega
   have e2 : ¬ badU (16 * ((if leaf = true then 2 else 0) + 1) + y) := by unfold badU; rw [q1]; cases leaf <;> simp
   rw [if_neg e2, e, q1]
   cases leaf <;> simp
theorem pack_unp {b : List Int} (hb : isB b) (h : (unpP b).2.2 = 0) : packP (unpP b).1 (unpP b).2.1 = (b, 0) := by
 cases b with
 | nil => simp [unpP] at h
 | cons c r =>
  obtain ⟨hc, hr⟩ := Zoz hb
  rw [Zg6] at h ⊢
  by_cases hbad : badU c
  ·rw [if_pos hbad] at h; simp at h
  ·rw [if_neg hbad] at h ⊢
   simp only
   have hrn := Zh3 hb
   by_cases h2 : c / 16 % 2 = 0
   ·have hz : c % 16 = 0 := Classical.byContradiction fun hn => hbad (.inr ⟨h2, hn⟩)
    have h3 : ¬ c / 16 > 3 := fun hn => hbad (.inl hn)
    rw [if_pos h2]
    have e : (nib (c :: r)).drop 2 = nib r := rfl
    rw [e, packP_yes (Zh3 hr)]
    congr 1
    have e1 : hdP (nib r).length (decide (c / 16 ≥ 2)) = [c / 16, c % 16] := by
     unfold hdP
     rw [if_pos (by rw [nib_len]; omega), hz]
     by_cases hge : c / 16 ≥ 2
     ·rw [decide_eq_true hge]; simp; omega
     ·rw [decide_eq_false hge]; simp; omega
    rw [e1]
    exact kk_nib (c :: r)
   ·have h3 : ¬ c / 16 > 3 := fun hn => hbad (.inl hn)
    rw [if_neg h2]
    have e : (nib (c :: r)).drop 1 = c % 16 :: nib r := rfl
    have hrr : rightP (c % 16 :: nib r) = true := rightP_iff.2 fun x hx => rightP_iff.1 hrn x (by simp only [nib]; exact List.mem_cons_of_mem _ hx)
    rw [e, packP_yes hrr]
    congr 1
    have e1 : hdP (c % 16 :: nib r).length (decide (c / 16 ≥ 2)) = [c / 16] := by
     unfold hdP
     rw [if_neg (by rw [List.length_cons, nib_len]; omega)]
     by_cases hge : c / 16 ≥ 2
     ·rw [decide_eq_true hge]; simp; omega
     ·rw [decide_eq_false hge]; simp; omega
    rw [e1]
    exact kk_nib (c :: r)
def com : List Int -> List Int -> Nat
 | x :: p, y :: q => if x = y then com p q + 1 else 0
 | _, _ => 0
theorem com_le : ∀ p q : List Int, com p q <= p.length /\ com p q <= q.length
 | [], _ => by simp [com]
 | _ :: _, [] => by simp [com]
 | x :: p, y :: q => by
  have := com_le p q
  simp only [com]
  split
  ·simp; omega
  ·simp
theorem com_take : ∀ p q : List Int, p.take (com p q) = q.take (com p q)
 | [], _ => by simp [com]
 | _ :: _, [] => by simp [com]
 | x :: p, y :: q => by
  simp only [com]
  split
  ·rename_i h; subst h; simp [com_take p q]
  ·simp
theorem com_stop : ∀ p q : List Int, com p q < p.length -> com p q < q.length -> p.getD (com p q) 0 ≠ q.getD (com p q) 0
 | [], _, h, _ => by simp at h
 | _ :: _, [], _, h => by simp at h
 | x :: p, y :: q, h1, h2 => by
  simp only [com] at h1 h2 ⊢
  split at h1
  ·rename_i e
   rw [if_pos e] at h2 ⊢
   simp only [List.getD_cons_succ]
   exact com_stop p q (by simp at h1; omega) (by simp at h2; omega)
  ·rename_i e
   rw [if_neg e]
   exact e
theorem Zlc : ∀ (p q : List Int) (n : Nat), n <= p.length -> n <= q.length -> p.take n = q.take n -> (n = p.length \/ n = q.length \/ p.getD n 0 ≠ q.getD n 0) -> com p q = n
 | [], q, n, h1, h2, h3, h4 => by simp at h1; simp [com, h1]
 | x :: p, [], n, h1, h2, h3, h4 => by simp at h2; simp [com, h2]
 | x :: p, y :: q, 0, h1, h2, h3, h4 => by
  simp only [com]
  rw [if_neg]
  rcases h4 with h | h | h
  ·simp at h
  ·simp at h
  ·exact h
 | x :: p, y :: q, n + 1, h1, h2, h3, h4 => by
  simp only [List.take_succ_cons, List.cons.injEq] at h3
  simp only [com]
  rw [if_pos h3.1, Zlc p q n (by simpa using h1) (by simpa using h2) h3.2 (by simpa using h4)]
theorem Zvl : ∀ p q : List Int, com p q = com q p
 | [], [] => rfl
 | [], _ :: _ => rfl
 | _ :: _, [] => rfl
 | x :: p, y :: q => by
  simp only [com, Zvl p q]
  by_cases h : x = y
  ·rw [if_pos h, if_pos h.symm]
  ·rw [if_neg h, if_neg (fun e => h e.symm)]
def lessP : List Int -> List Int -> Bool
 | _, [] => false
 | [], _ :: _ => true
 | x :: p, y :: q => if x = y then lessP p q else decide (x < y)
theorem less_at : ∀ p q : List Int, lessP p q = if com p q = q.length then false else if com p q = p.length then true else decide (p.getD (com p q) 0 < q.getD (com p q) 0)
 | [], [] => rfl
 | [], y :: q => by simp [lessP, com]
 | x :: p, [] => by simp [lessP, com]
 | x :: p, y :: q => by
  by_cases h : x = y
  ·have e1 : com (x :: p) (y :: q) = com p q + 1 := if_pos h
   have e2 : lessP (x :: p) (y :: q) = lessP p q := if_pos h
   rw [e1, e2, less_at p q]
   simp
  ·have e1 : com (x :: p) (y :: q) = 0 := if_neg h
   have e2 : lessP (x :: p) (y :: q) = decide (x < y) := if_neg h
   rw [e1, e2]
   simp
theorem Zk4 : ∀ p q : List Int, (lessP p q || lessP q p) = !decide (p = q)
 | [], [] => rfl
 | [], y :: q => by simp [lessP]
 | x :: p, [] => by simp [lessP]
 | x :: p, y :: q => by
  simp only [lessP]
  by_cases h : x = y
  ·subst h
   rw [if_pos rfl, if_pos rfl, Zk4 p q]
   simp
  ·rw [if_neg h, if_neg (fun e => h e.symm)]
   have : x < y \/ y < x := by omega
   rcases this with h1 | h1
   ·simp [h, h1]
   ·simp [h, h1]
theorem less_nib : ∀ a b : List Int, lessP (nib a) (nib b) = lessP a b
 | [], [] => rfl
 | [], y :: b => by simp [nib, lessP]
 | _ :: _, [] => by simp [nib, lessP]
 | x :: a, y :: b => by
  have ih := less_nib a b
  simp only [nib, lessP]
  by_cases h : x = y
  ·subst h
   rw [if_pos rfl, if_pos rfl, if_pos rfl, ih]
  ·rw [if_neg h]
   by_cases h1 : x / 16 = y / 16
   ·rw [if_pos h1, if_neg (by omega), decide_eq_decide]
    omega
   ·rw [if_neg h1, decide_eq_decide]
    omega
end Go.Proofs.YtdkpilgelgjieaaGreat.Ni
namespace Go.Proofs.YtdkpilgelgjieaaGreat
inductive Tr where
 | no : Tr
 | leaf (p v : List Int) : Tr
 | ext (p : List Int) (c : Tr) : Tr
 | br (k : Nat -> Tr) (v : List Int) : Tr
namespace Tr
def isNo : Tr -> Bool
 | no => true
 | _ => false
def isBr : Tr -> Bool
 | br _ _ => true
 | _ => false
def upd (k : Nat -> Tr) (i : Nat) (t : Tr) : Nat -> Tr := fun j => if j = i then t else k j
theorem Zau (k : Nat -> Tr) (i : Nat) (t : Tr) : upd k i t i = t := by simp [upd]
theorem Zav (k : Nat -> Tr) {i j : Nat} (t : Tr) (h : j ≠ i) : upd k i t j = k j := by simp [upd, h]
def nk : Nat -> Tr := fun _ => no
def get : Tr -> List Int -> List Int
 | no, _ => []
 | leaf p v, q => if q = p then v else []
 | ext p c, q => if q.take p.length = p then get c (q.drop p.length) else []
 | br k v, [] => v
 | br k v, i :: r => get (k i.toNat) r
def und (p : List Int) : Tr -> Tr
 | no => no
 | leaf q v => leaf (p ++ q) v
 | ext q c => ext (p ++ q) c
 | br k v => if p = [] then br k v else ext p (br k v)
def add (k : Nat -> Tr) (x : List Int) (q v : List Int) : Tr := match q with
 | [] => br k v
 | i :: r => br (upd k i.toNat (leaf r v)) x
def addT (t : Tr) (q v : List Int) : Tr := match t with
 | br k x => add k x q v
 | t => t
def put : Tr -> List Int -> List Int -> Tr
 | no, q, v => leaf q v
 | leaf p x, q, v => if q = p then leaf q v else und (q.take (Ni.com p q)) (addT (add nk [] (p.drop (Ni.com p q)) x) (q.drop (Ni.com p q)) v)
 | ext p c, q, v => if Ni.com p q = p.length then ext p (put c (q.drop p.length) v) else und (q.take (Ni.com p q)) (add (upd nk (p.getD (Ni.com p q) 0).toNat (und (p.drop (Ni.com p q + 1)) c)) [] (q.drop (Ni.com p q)) v)
 | br k x, [], v => br k v
 | br k x, i :: r, v => br (upd k i.toNat (put (k i.toNat) r v)) x
def kidsN (k : Nat -> Tr) : Nat -> Nat
 | 0 => 0
 | n + 1 => kidsN k n + if (k n).isNo then 0 else 1
def lastN (k : Nat -> Tr) : Nat -> Nat
 | 0 => 0
 | n + 1 => if (k n).isNo then lastN k n else n
def nrm (k : Nat -> Tr) (x : List Int) : Tr :=
 if kidsN k 16 = 0 then leaf [] x else if kidsN k 16 = 1 /\ x = [] then und [(lastN k 16 : Int)] (k (lastN k 16)) else br k x
def del : Tr -> List Int -> Tr
 | no, _ => no
 | leaf _ _, _ => no
 | ext p c, q => und p (del c (q.drop p.length))
 | br k x, [] => nrm k []
 | br k x, i :: r => nrm (upd k i.toNat (del (k i.toNat) r)) x
def Nb (p : List Int) : Prop := ∀ i ∈ p, 0 <= i /\ i < 16
theorem Nb.drop {p : List Int} (h : Nb p) (n : Nat) : Nb (p.drop n) := fun i hi => h i (List.mem_of_mem_drop hi)
theorem Nb.take {p : List Int} (h : Nb p) (n : Nat) : Nb (p.take n) := fun i hi => h i (List.mem_of_mem_take hi)
theorem Nb.app {p q : List Int} (h : Nb p) (k : Nb q) : Nb (p ++ q) := fun i hi => by
 rcases List.mem_append.1 hi with hi | hi
 ·exact h i hi
 ·exact k i hi
theorem Nb.head {i : Int} {r : List Int} (h : Nb (i :: r)) : 0 <= i /\ i < 16 := h i (by simp)
theorem Nb.tail {i : Int} {r : List Int} (h : Nb (i :: r)) : Nb r := fun j hj => h j (List.mem_cons_of_mem _ hj)
def two (k : Nat -> Tr) (x : List Int) : Prop := (∃ i j, i ≠ j /\ k i ≠ no /\ k j ≠ no) \/ (x ≠ [] /\ ∃ i, k i ≠ no)
def Ok : Nat -> Tr -> Prop
 | _, no => False
 | B, leaf p v => Nb p /\ p.length <= B /\ v ≠ []
 | B, ext p c => Nb p /\ p ≠ [] /\ p.length <= B /\ c.isBr = true /\ Ok (B - p.length) c
 | B, br k x => (∀ i, k i = no \/ (i < 16 /\ 1 <= B /\ Ok (B - 1) (k i))) /\ two k x
theorem Ziy (p : List Int) (t : Tr) (q : List Int) : get (und p t) q = if q.take p.length = p then get t (q.drop p.length) else [] := by
 cases t with
 | no => simp [und, get]
 | leaf r v =>
  simp only [und, get]
  by_cases h : q.take p.length = p
  ·rw [if_pos h]
   have e : q = p ++ q.drop p.length := by conv => lhs; rw [<- List.take_append_drop p.length q, h]
   by_cases h2 : q.drop p.length = r
   ·rw [if_pos h2, if_pos (by rw [e, h2])]
   ·rw [if_neg h2, if_neg (fun e2 => h2 (by rw [e2]; simp))]
  ·rw [if_neg h, if_neg (fun e => h (by rw [e]; simp))]
 | ext r c =>
  simp only [und, get, List.length_append]
  by_cases h : q.take p.length = p
  ·rw [if_pos h]
   have e : q.take (p.length + r.length) = p ++ (q.drop p.length).take r.length := by
    rw [List.take_add, h]
   rw [e, List.drop_drop]
   by_cases h2 : (q.drop p.length).take r.length = r
   ·rw [if_pos h2, if_pos (by rw [h2])]
   ·rw [if_neg h2, if_neg (fun e2 => h2 (List.append_cancel_left e2))]
  ·rw [if_neg h, if_neg (fun e => h (by
    have := congrArg (List.take p.length) e
    rw [List.take_take, Nat.min_eq_left (by omega)] at this
    simpa using this))]
 | br k v =>
  simp only [und]
  by_cases h : p = []
  ·subst h; simp
  ·rw [if_neg h]; simp only [get]
theorem Zjh {B : Nat} {p : List Int} {t : Tr} (hp : Nb p) (h : Ok B t) : Ok (B + p.length) (und p t) := by
 cases t with
 | no => exact h
 | leaf q v => exact ⟨hp.app h.1, by simp; have := h.2.1; omega, h.2.2⟩
 | ext q c =>
  obtain ⟨h1, h2, h3, h4, h5⟩ := h
  refine ⟨hp.app h1, by simp [h2], by simp; omega, h4, ?_⟩
  rw [show B + p.length - (p ++ q).length = B - q.length from by simp; omega]
  exact h5
 | br k v =>
  simp only [und]
  by_cases hq : p = []
  ·rw [if_pos hq, hq]; exact h
  ·rw [if_neg hq]
   refine ⟨hp, hq, by omega, rfl, ?_⟩
   rw [show B + p.length - p.length = B from by omega]
   exact h
theorem Ok.ne {B : Nat} {t : Tr} (h : Ok B t) : t ≠ no := fun e => by rw [e] at h; exact h
theorem isNo_iff {t : Tr} : t.isNo = true ↔ t = no := by cases t <;> simp [isNo]
theorem Ok.some {B : Nat} : ∀ {t : Tr}, Ok B t -> ∃ q, Nb q /\ q.length <= B /\ get t q ≠ [] := by
 intro t
 induction t generalizing B with
 | no => intro h; exact h.elim
 | leaf p v => intro h; exact ⟨p, h.1, h.2.1, by simp [get, h.2.2]⟩
 | ext p c ih =>
  intro h
  obtain ⟨h1, h2, h3, h4, h5⟩ := h
  obtain ⟨q, k1, k2, k3⟩ := ih h5
  exact ⟨p ++ q, h1.app k1, by simp; omega, by simp [get, k3]⟩
 | br k x ih =>
  intro h
  have : ∃ i, k i ≠ no := by
   rcases h.2 with ⟨i, _, _, h, _⟩ | ⟨_, i, h⟩ <;> exact ⟨i, h⟩
  obtain ⟨i, hi⟩ := this
  rcases h.1 i with h0 | ⟨h1, h2, h3⟩
  ·exact absurd h0 hi
  ·obtain ⟨q, k1, k2, k3⟩ := ih i h3
   refine ⟨(i : Int) :: q, fun j hj => ?_, by simp; omega, by simpa [get] using k3⟩
   rcases List.mem_cons.1 hj with rfl | hj
   ·omega
   ·exact k1 j hj
end Tr
end Go.Proofs.YtdkpilgelgjieaaGreat
namespace Go.Proofs.YtdkpilgelgjieaaGreat
namespace Tr
def Hd (a b : List Int) : Prop := a = [] \/ b = [] \/ ∃ i a' j b', a = i :: a' /\ b = j :: b' /\ i ≠ j
theorem Zf2 (p q : List Int) : ∃ Q a b, p = Q ++ a /\ q = Q ++ b /\ Ni.com p q = Q.length /\ Hd a b := by
 obtain ⟨h1, h2⟩ := Ni.com_le p q
 refine ⟨p.take (Ni.com p q), p.drop (Ni.com p q), q.drop (Ni.com p q), (List.take_append_drop _ _).symm, ?_, ?_, ?_⟩
 ·rw [Ni.com_take, List.take_append_drop]
 ·rw [List.length_take]; omega
 ·by_cases hp : Ni.com p q < p.length
  ·by_cases hq : Ni.com p q < q.length
   ·have hs := Ni.com_stop p q hp hq
    right; right
    refine ⟨p.getD (Ni.com p q) 0, p.drop (Ni.com p q + 1), q.getD (Ni.com p q) 0, q.drop (Ni.com p q + 1), ?_, ?_, hs⟩
    ·rw [List.drop_eq_getElem_cons hp]; simp [List.getD, List.getElem?_eq_getElem hp]
    ·rw [List.drop_eq_getElem_cons hq]; simp [List.getD, List.getElem?_eq_getElem hq]
   ·right; left; exact List.drop_eq_nil_of_le (by omega)
  ·left; exact List.drop_eq_nil_of_le (by omega)
theorem Zr0 (Q q' : List Int) : q'.take Q.length = Q ↔ ∃ s, q' = Q ++ s := by
 constructor
 ·intro h
  exact ⟨q'.drop Q.length, by conv => lhs; rw [<- List.take_append_drop Q.length q', h]⟩
 ·rintro ⟨s, rfl⟩; simp
theorem Zeg (p : List Int) (c : Tr) (s : List Int) : get (ext p c) (p ++ s) = get c s := by simp [get]
theorem Zb4 (p : List Int) (c : Tr) (q : List Int) (h : ¬ ∃ s, q = p ++ s) : get (ext p c) q = [] := by
 rw [get, if_neg (fun e => h ((Zr0 p q).1 e))]
theorem Zfd (p : List Int) (t : Tr) (s : List Int) : get (und p t) (p ++ s) = get t s := by rw [Ziy]; simp
theorem Zgf (p : List Int) (t : Tr) (q : List Int) (h : ¬ ∃ s, q = p ++ s) : get (und p t) q = [] := by
 rw [Ziy, if_neg (fun e => h ((Zr0 p q).1 e))]
theorem Zya {a b x v : List Int} (hab : Hd a b) (hne : a ≠ b) (ha : Nb a) (hb : Nb b) (s : List Int) (hs : Nb s) : get (addT (add nk [] a x) b v) s = if s = b then v else if s = a then x else [] := by
 cases a with
 | nil =>
  cases b with
  | nil => exact absurd rfl hne
  | cons j b' =>
   simp only [add, addT]
   cases s with
   | nil => simp [get]
   | cons i s' =>
    simp only [get]
    by_cases hij : i = j
    ·subst hij; rw [Zau]; simp [get]
    ·rw [Zav _ _ (by have := hs.head; have := hb.head; omega)]; simp [nk, get, hij]
 | cons i a' =>
  cases b with
  | nil =>
   simp only [add, addT]
   cases s with
   | nil => simp [get]
   | cons h s' =>
    simp only [get]
    by_cases hij : h = i
    ·subst hij; rw [Zau]; simp [get]
    ·rw [Zav _ _ (by have := hs.head; have := ha.head; omega)]; simp [nk, get, hij]
  | cons j b' =>
   have hij : i ≠ j := by
    rcases hab with h | h | ⟨_, _, _, _, h1, h2, h3⟩
    ·cases h
    ·cases h
    ·cases h1; cases h2; exact h3
   simp only [add, addT]
   cases s with
   | nil => simp [get]
   | cons h s' =>
    simp only [get]
    have b1 := hs.head; have b2 := ha.head; have b3 := hb.head
    by_cases h1 : h = j
    ·subst h1; rw [Zau]; simp [get, Ne.symm hij]
    ·rw [Zav _ _ (by omega)]
     by_cases h2 : h = i
     ·subst h2; rw [Zau]; simp [get, h1]
     ·rw [Zav _ _ (by omega)]; simp [nk, get, h1, h2]
theorem Zvg {i : Int} {b v : List Int} {U : Tr} (hi : 0 <= i) (hab : Hd [i] b) (hb : Nb b) (s : List Int) (hs : Nb s) : get (add (upd nk i.toNat U) [] b v) s = if s = b then v else match s with | [] => [] | h :: r => if h = i then get U r else [] := by
 cases b with
 | nil =>
  simp only [add]
  cases s with
  | nil => simp [get]
  | cons h s' =>
   simp only [get]
   have b1 := hs.head
   by_cases hij : h = i
   ·subst hij; rw [Zau]; simp
   ·rw [Zav _ _ (by omega)]; simp [nk, get, hij]
 | cons j b' =>
  have hij : i ≠ j := by
   rcases hab with h | h | ⟨_, _, _, _, h1, h2, h3⟩
   ·cases h
   ·cases h
   ·cases h1; cases h2; exact h3
  simp only [add]
  cases s with
  | nil => simp [get]
  | cons h s' =>
   simp only [get]
   have b1 := hs.head; have b3 := hb.head
   by_cases h1 : h = j
   ·subst h1; rw [Zau]; simp [get, Ne.symm hij]
   ·rw [Zav _ _ (by omega)]
    by_cases h2 : h = i
    ·subst h2; rw [Zau]; simp [h1]
    ·rw [Zav _ _ (by omega)]; simp [nk, get, h1, h2]
theorem Nb.of_app {p q : List Int} (h : Nb (p ++ q)) : Nb p /\ Nb q := ⟨fun i hi => h i (List.mem_append_left _ hi), fun i hi => h i (List.mem_append_right _ hi)⟩
theorem Znw {Q a b : List Int} : Q ++ a = Q ++ b ↔ a = b := ⟨List.append_cancel_left, fun h => by rw [h]⟩
theorem Zs3 : ∀ (t : Tr) (B : Nat) (q v q' : List Int), (t = no \/ Ok B t) -> Nb q -> Nb q' -> get (put t q v) q' = if q' = q then v else get t q' := by
 intro t
 induction t with
 | no => intro B q v q' _ _ _; simp [put, get]
 | leaf p x =>
  intro B q v q' h hq hq'
  have hp : Nb p := by
   rcases h with h | h
   ·cases h
   ·exact h.1
  simp only [put]
  by_cases e : q = p
  ·rw [if_pos e, get, get]
   by_cases h2 : q' = q
   ·rw [if_pos h2, if_pos h2]
   ·rw [if_neg h2, if_neg h2, if_neg (by rw [<- e]; exact h2)]
  ·rw [if_neg e]
   obtain ⟨Q, a, b, rfl, rfl, hc, hab⟩ := Zf2 p q
   rw [hc]
   simp only [List.take_left, List.drop_left]
   have hne : a ≠ b := fun q => e (by rw [q])
   obtain ⟨hQ, ha⟩ := hp.of_app
   obtain ⟨_, hb⟩ := hq.of_app
   by_cases hs : ∃ s, q' = Q ++ s
   ·obtain ⟨s, rfl⟩ := hs
    rw [Zfd, Zya hab hne ha hb s hq'.of_app.2, get]
    simp only [Znw]
   ·rw [Zgf _ _ _ hs, if_neg (fun e => hs ⟨b, e⟩), get, if_neg (fun e => hs ⟨a, e⟩)]
 | ext p c ih =>
  intro B q v q' h hq hq'
  have hok : Ok B (ext p c) := by
   rcases h with h | h
   ·cases h
   ·exact h
  obtain ⟨h1, h2, h3, h4, h5⟩ := hok
  obtain ⟨Q, a, b, rfl, rfl, hc, hab⟩ := Zf2 p q
  simp only [put]
  rw [hc]
  obtain ⟨hQ, ha⟩ := h1.of_app
  obtain ⟨_, hb⟩ := hq.of_app
  by_cases ea : a = []
  ·subst ea
   simp only [List.append_nil] at h2 h3 h5 ⊢
   rw [if_pos trivial]
   simp only [List.drop_left]
   by_cases hs : ∃ s, q' = Q ++ s
   ·obtain ⟨s, rfl⟩ := hs
    rw [Zeg, Zeg, ih _ b v s (.inr h5) hb hq'.of_app.2]
    simp only [Znw]
   ·rw [Zb4 _ _ _ hs, Zb4 _ _ _ hs, if_neg (fun e => hs ⟨b, e⟩)]
  ·obtain ⟨i, a', rfl⟩ : ∃ i a', a = i :: a' := by
    cases a with
    | nil => exact absurd rfl ea
    | cons i a' => exact ⟨i, a', rfl⟩
   rw [if_neg (by simp)]
   have e1 : (Q ++ i :: a').getD Q.length 0 = i := by simp [List.getD]
   have e2 : (Q ++ i :: a').drop (Q.length + 1) = a' := by
    rw [show Q ++ i :: a' = (Q ++ [i]) ++ a' from by simp, show Q.length + 1 = (Q ++ [i]).length from by simp, List.drop_left]
   have hi := ha.head
   have hh : Hd [i] b := by
    rcases hab with h | h | ⟨_, _, j, b', h6, h7, h8⟩
    ·cases h
    ·exact .inr (.inl h)
    ·cases h6; exact .inr (.inr ⟨i, [], j, b', rfl, h7, h8⟩)
   rw [e1, e2]
   simp only [List.take_left, List.drop_left]
   by_cases hs : ∃ s, q' = Q ++ s
   ·obtain ⟨s, rfl⟩ := hs
    rw [Zfd, Zvg hi.1 hh hb s hq'.of_app.2]
    simp only [Znw]
    by_cases hsb : s = b
    ·rw [if_pos hsb, if_pos hsb]
    ·rw [if_neg hsb, if_neg hsb]
     cases s with
     | nil =>
      rw [Zb4]
      rintro ⟨r, hr⟩
      have := congrArg List.length hr
      simp at this
     | cons g r =>
      simp only
      by_cases hhi : g = i
      ·subst hhi
       rw [if_pos rfl]
       by_cases hr : ∃ u, r = a' ++ u
       ·obtain ⟨u, rfl⟩ := hr
        rw [Zfd, show Q ++ g :: (a' ++ u) = (Q ++ g :: a') ++ u from by simp, Zeg]
       ·rw [Zgf _ _ _ hr, Zb4]
        rintro ⟨u, hu⟩
        exact hr ⟨u, by simpa using hu⟩
      ·rw [if_neg hhi, Zb4]
       rintro ⟨u, hu⟩
       simp at hu
       exact hhi hu.1
   ·rw [Zgf _ _ _ hs, if_neg (fun e => hs ⟨b, e⟩), Zb4]
    rintro ⟨u, rfl⟩
    exact hs ⟨i :: a' ++ u, by simp⟩
 | br k x ih =>
  intro B q v q' h hq hq'
  have hok : Ok B (br k x) := by
   rcases h with h | h
   ·cases h
   ·exact h
  cases q with
  | nil =>
   simp only [put]
   cases q' with
   | nil => simp [get]
   | cons h r => simp [get]
  | cons i r =>
   simp only [put]
   cases q' with
   | nil => simp [get]
   | cons h s =>
    simp only [get]
    have b1 := hq.head; have b2 := hq'.head
    by_cases hi : h = i
    ·subst hi
     rw [Zau, ih _ (B - 1) r v s (by
      rcases hok.1 h.toNat with h0 | ⟨_, _, h3⟩
      ·exact .inl h0
      ·exact .inr h3) hq.tail hq'.tail]
     simp
    ·rw [Zav _ _ (by omega)]
     simp [hi]
theorem Zw5 {k : Nat -> Tr} {x : List Int} (h : two k x) (i : Nat) {t : Tr} (ht : t ≠ no) : two (upd k i t) x := by
 have hk : ∀ j, k j ≠ no -> upd k i t j ≠ no := fun j hj => by
  unfold upd
  by_cases e : j = i
  ·rw [if_pos e]; exact ht
  ·rw [if_neg e]; exact hj
 rcases h with ⟨a, b, h1, h2, h3⟩ | ⟨h1, a, h2⟩
 ·exact .inl ⟨a, b, h1, hk a h2, hk b h3⟩
 ·exact .inr ⟨h1, a, hk a h2⟩
theorem Zw4 {k : Nat -> Tr} {x v : List Int} (h : two k x) (hv : v ≠ []) : two k v := by
 rcases h with ⟨a, b, h1, h2, h3⟩ | ⟨h1, a, h2⟩
 ·exact .inr ⟨hv, a, h2⟩
 ·exact .inr ⟨hv, a, h2⟩
theorem Ok.mono {B : Nat} : ∀ {t : Tr} {C : Nat}, Ok B t -> B <= C -> Ok C t := by
 intro t
 induction t generalizing B with
 | no => intro C h _; exact h
 | leaf p v => intro C h hc; exact ⟨h.1, by have := h.2.1; omega, h.2.2⟩
 | ext p c ih => intro C h hc; exact ⟨h.1, h.2.1, by have := h.2.2.1; omega, h.2.2.2.1, ih h.2.2.2.2 (by omega)⟩
 | br k x ih =>
  intro C h hc
  refine ⟨fun i => ?_, h.2⟩
  rcases h.1 i with h0 | ⟨h1, h2, h3⟩
  ·exact .inl h0
  ·exact .inr ⟨h1, by omega, ih i h3 (by omega)⟩
theorem Zwd : ∀ (t : Tr) (B : Nat) (q v : List Int), (t = no \/ Ok B t) -> Nb q -> q.length <= B -> v ≠ [] -> Ok B (put t q v) := by
 intro t
 induction t with
 | no => intro B q v _ hq hl hv; exact ⟨hq, hl, hv⟩
 | leaf p x =>
  intro B q v h hq hl hv
  have hok : Ok B (leaf p x) := by
   rcases h with h | h
   ·cases h
   ·exact h
  obtain ⟨hp, hpl, hx⟩ := hok
  simp only [put]
  by_cases e : q = p
  ·rw [if_pos e]; exact ⟨hq, hl, hv⟩
  ·rw [if_neg e]
   obtain ⟨Q, a, b, rfl, rfl, hc, hab⟩ := Zf2 p q
   rw [hc]
   simp only [List.take_left, List.drop_left]
   have hne : a ≠ b := fun q => e (by rw [q])
   obtain ⟨hQ, ha⟩ := hp.of_app
   obtain ⟨_, hb⟩ := hq.of_app
   simp only [List.length_append] at hl hpl
   refine Ok.mono (Zjh (B := B - Q.length) hQ ?_) (by omega)
   cases a with
   | nil =>
    cases b with
    | nil => exact absurd rfl hne
    | cons j b' =>
     simp only [add, addT]
     have b3 := hb.head
     refine ⟨fun i => ?_, .inr ⟨hx, j.toNat, by rw [Zau]; simp⟩⟩
     by_cases hi : i = j.toNat
     ·subst hi; rw [Zau]; simp at hl; exact .inr ⟨by omega, by omega, hb.tail, by omega, hv⟩
     ·rw [Zav _ _ hi]; exact .inl rfl
   | cons i a' =>
    have b2 := ha.head
    cases b with
    | nil =>
     simp only [add, addT]
     refine ⟨fun j => ?_, .inr ⟨hv, i.toNat, by rw [Zau]; simp⟩⟩
     by_cases hi : j = i.toNat
     ·subst hi; rw [Zau]; simp at hpl; exact .inr ⟨by omega, by omega, ha.tail, by omega, hx⟩
     ·rw [Zav _ _ hi]; exact .inl rfl
    | cons j b' =>
     have hij : i ≠ j := by
      rcases hab with h | h | ⟨_, _, _, _, h1, h2, h3⟩
      ·cases h
      ·cases h
      ·cases h1; cases h2; exact h3
     have b3 := hb.head
     simp at hpl hl
     simp only [add, addT]
     refine ⟨fun h => ?_, .inl ⟨i.toNat, j.toNat, by omega, ?_, ?_⟩⟩
     ·by_cases h1 : h = j.toNat
      ·subst h1; rw [Zau]; exact .inr ⟨by omega, by omega, hb.tail, by omega, hv⟩
      ·rw [Zav _ _ h1]
       by_cases h2 : h = i.toNat
       ·subst h2; rw [Zau]; exact .inr ⟨by omega, by omega, ha.tail, by omega, hx⟩
       ·rw [Zav _ _ h2]; exact .inl rfl
     ·rw [Zav _ _ (by omega), Zau]; simp
     ·rw [Zau]; simp
 | ext p c ih =>
  intro B q v h hq hl hv
  have hok : Ok B (ext p c) := by
   rcases h with h | h
   ·cases h
   ·exact h
  obtain ⟨h1, h2, h3, h4, h5⟩ := hok
  obtain ⟨Q, a, b, rfl, rfl, hc, hab⟩ := Zf2 p q
  simp only [put]
  rw [hc]
  obtain ⟨hQ, ha⟩ := h1.of_app
  obtain ⟨_, hb⟩ := hq.of_app
  simp only [List.length_append] at hl h3 h5
  by_cases ea : a = []
  ·subst ea
   simp only [List.append_nil] at h2 h3 h5 ⊢
   rw [if_pos trivial]
   simp only [List.drop_left]
   refine ⟨hQ, h2, by omega, ?_, ?_⟩
   ·cases c with
    | br k x => cases b <;> simp [put, isBr]
    | no => simp [isBr] at h4
    | leaf _ _ => simp [isBr] at h4
    | ext _ _ => simp [isBr] at h4
   ·exact ih (B - Q.length) b v (.inr (by simpa using h5)) hb (by omega) hv
  ·obtain ⟨i, a', rfl⟩ : ∃ i a', a = i :: a' := by
    cases a with
    | nil => exact absurd rfl ea
    | cons i a' => exact ⟨i, a', rfl⟩
   rw [if_neg (by simp)]
   have e1 : (Q ++ i :: a').getD Q.length 0 = i := by simp [List.getD]
   have e2 : (Q ++ i :: a').drop (Q.length + 1) = a' := by
    rw [show Q ++ i :: a' = (Q ++ [i]) ++ a' from by simp, show Q.length + 1 = (Q ++ [i]).length from by simp, List.drop_left]
   rw [e1, e2]
   simp only [List.take_left, List.drop_left]
   have b2 := ha.head
   simp at h3 h5
   refine Ok.mono (Zjh (B := B - Q.length) hQ ?_) (by omega)
   have hU : Ok (B - Q.length - 1) (und a' c) := Ok.mono (Zjh ha.tail h5) (by omega)
   cases b with
   | nil =>
    simp only [add]
    refine ⟨fun j => ?_, .inr ⟨hv, i.toNat, by rw [Zau]; exact hU.ne⟩⟩
    by_cases hi : j = i.toNat
    ·subst hi; rw [Zau]; exact .inr ⟨by omega, by omega, hU⟩
    ·rw [Zav _ _ hi]; exact .inl rfl
   | cons j b' =>
    have hij : i ≠ j := by
     rcases hab with h | h | ⟨_, _, _, _, h6, h7, h8⟩
     ·cases h
     ·cases h
     ·cases h6; cases h7; exact h8
    have b3 := hb.head
    simp at hl
    simp only [add]
    refine ⟨fun h => ?_, .inl ⟨i.toNat, j.toNat, by omega, ?_, ?_⟩⟩
    ·by_cases h6 : h = j.toNat
     ·subst h6; rw [Zau]; exact .inr ⟨by omega, by omega, hb.tail, by omega, hv⟩
     ·rw [Zav _ _ h6]
      by_cases h7 : h = i.toNat
      ·subst h7; rw [Zau]; exact .inr ⟨by omega, by omega, hU⟩
      ·rw [Zav _ _ h7]; exact .inl rfl
    ·rw [Zav _ _ (by omega), Zau]; exact hU.ne
    ·rw [Zau]; simp
 | br k x ih =>
  intro B q v h hq hl hv
  have hok : Ok B (br k x) := by
   rcases h with h | h
   ·cases h
   ·exact h
  cases q with
  | nil => exact ⟨hok.1, Zw4 hok.2 hv⟩
  | cons i r =>
   simp only [put]
   have b1 := hq.head
   simp at hl
   have hs : Ok (B - 1) (put (k i.toNat) r v) := ih i.toNat (B - 1) r v (by
    rcases hok.1 i.toNat with h0 | ⟨_, _, h3⟩
    ·exact .inl h0
    ·exact .inr h3) hq.tail (by omega) hv
   refine ⟨fun j => ?_, Zw5 hok.2 _ hs.ne⟩
   by_cases hj : j = i.toNat
   ·subst hj; rw [Zau]; exact .inr ⟨by omega, by omega, hs⟩
   ·rw [Zav _ _ hj]; exact hok.1 j
end Tr
namespace Tr
end Tr
end Go.Proofs.YtdkpilgelgjieaaGreat

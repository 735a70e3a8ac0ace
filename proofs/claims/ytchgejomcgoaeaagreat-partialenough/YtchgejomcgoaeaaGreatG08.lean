/- A list of items that may be written each alone: it may be written, or is too deep: plain laws. -/
import Derived.Test.YtchgejomcgoaeaaGreatG07
set_option linter.unusedVariables false
namespace Go.Proofs.YtchgejomcgoaeaaGreat
def Deep (d : Nat) (t : T) : Prop := ∀ w, w + (enc t).length ≤ 16777215 → ((wk t d w).2 = 0 ∧ (wk t d w).1 ≤ w + (enc t).length) ∨ (wk t d w).2 = 21
theorem Zs5 {base n : Nat} (h : n < 16777216) : (hd base n).length ≤ 4 := by
 rw [hd_len]
 have := Zgq h
 split <;> omega
end Go.Proofs.YtchgejomcgoaeaaGreat
namespace Go.Proofs.YtchgejomcgoaeaaGreat.Ni
def isB (b : List Int) : Prop := ∀ x ∈ b, 0 ≤ x ∧ x < 256
theorem Zmh {x : Int} {r : List Int} (h : isB (x :: r)) : (0 ≤ x ∧ x < 256) ∧ isB r := ⟨h x (by simp), fun y hy => h y (by simp [hy])⟩
def nib : List Int → List Int
  | [] => []
  | b :: r => b / 16 :: b % 16 :: nib r
theorem Zef : ∀ k : List Int, (nib k).length = 2 * k.length
  | [] => rfl
  | b :: r => by simp only [nib, List.length_cons, Zef r]; omega
theorem Zpu : ∀ a b : List Int, nib (a ++ b) = nib a ++ nib b
  | [], _ => rfl
  | x :: a, b => by simp only [List.cons_append, nib, Zpu a b]
theorem nib_bd : ∀ k : List Int, isB k → ∀ x ∈ nib k, 0 ≤ x ∧ x ≤ 15
  | [], _, x, h => by cases h
  | b :: r, hb, x, h => by
    obtain ⟨h1, h2⟩ := Zmh hb
    rcases List.mem_cons.1 h with rfl | h
    · omega
    rcases List.mem_cons.1 h with rfl | h
    · omega
    · exact nib_bd r h2 x h
theorem Zpt {k : List Int} (h : isB k) : isB (nib k) := fun x hx => by have := nib_bd k h x hx; omega
theorem getD_mem {l : List Int} {i : Nat} (h : i < l.length) : l.getD i 0 ∈ l := by
 rw [List.getD, List.getElem?_eq_getElem h]; exact List.getElem_mem _
theorem Zmg {b : List Int} (h : isB b) (i : Nat) : isB (b.drop i) := fun x hx => h x (List.mem_of_mem_drop hx)
theorem Zen {b : List Int} {i : Nat} (hi : i < b.length) : b.take (i + 1) = b.take i ++ [b.getD i 0] := by
 rw [List.take_add_one, List.getElem?_eq_getElem hi]; simp [List.getD, List.getElem?_eq_getElem hi]
theorem Zsn {b : List Int} {i : Nat} (hi : i < b.length) : nib (b.take (i + 1)) = nib (b.take i) ++ [b.getD i 0 / 16, b.getD i 0 % 16] := by
 rw [Zen hi, Zpu]; rfl
def rightP (p : List Int) : Bool := p.all fun x => decide (x ≤ 15)
theorem rightP_iff {p : List Int} : rightP p = true ↔ ∀ x ∈ p, x ≤ 15 := by simp [rightP]
theorem Zjg {k : List Int} (h : isB k) : rightP (nib k) = true := rightP_iff.2 fun x hx => (nib_bd k h x hx).2
theorem Zr2 {p : List Int} {j : Nat} (h : j < p.length) (hx : p.getD j 0 > 15) : rightP p = false := by
 cases e : rightP p with
 | false => rfl
 | true => have := rightP_iff.1 e _ (getD_mem h); omega
theorem Zow {p : List Int} (h : ∀ i, i < p.length → p.getD i 0 ≤ 15) : rightP p = true := rightP_iff.2 fun x hx => by
  obtain ⟨i, hi, rfl⟩ := List.getElem_of_mem hx
  have := h i hi
  rwa [List.getD, List.getElem?_eq_getElem hi] at this
theorem Zlt {p : List Int} (h : rightP p = true) {i : Nat} (hi : i < p.length) : p.getD i 0 ≤ 15 := rightP_iff.1 h _ (getD_mem hi)
theorem Zjh {p q : List Int} : rightP (p ++ q) = (rightP p && rightP q) := by simp [rightP]
def kk : List Int → List Int
  | a :: b :: r => (16 * a + b) :: kk r
  | _ => []
theorem Zqa : ∀ k : List Int, kk (nib k) = k
  | [] => rfl
  | b :: r => by simp only [nib, kk, Zqa r]; congr 1; omega
theorem Zqb : ∀ p : List Int, (kk p).length = p.length / 2
  | [] => rfl
  | [_] => by simp [kk]
  | a :: b :: r => by simp only [kk, List.length_cons, Zqb r]; omega
theorem Zt9 : ∀ (p : List Int) (i : Nat), 2 * i + 1 < p.length → (kk p).getD i 0 = 16 * p.getD (2 * i) 0 + p.getD (2 * i + 1) 0
  | [], i, h => by simp at h
  | [_], i, h => by simp at h
  | a :: b :: r, 0, h => rfl
  | a :: b :: r, i + 1, h => by
    have h2 : 2 * i + 1 < r.length := by simp at h; omega
    have := Zt9 r i h2
    simp only [kk]
    rw [show 2 * (i + 1) = 2 * i + 1 + 1 from by omega]
    simpa using this
theorem Zt7 : ∀ p : List Int, isB p → rightP p = true → p.length % 2 = 0 → nib (kk p) = p
  | [], _, _, _ => rfl
  | [_], _, _, h => by simp at h
  | a :: b :: r, hb, hr, hl => by
    have h0 := hb a (by simp)
    have h1 := rightP_iff.1 hr b (by simp)
    have h2 := hb b (by simp)
    have h3 : isB r := fun x hx => hb x (by simp [hx])
    have h4 : rightP r = true := rightP_iff.2 fun x hx => rightP_iff.1 hr x (by simp [hx])
    simp only [kk, nib, Zt7 r h3 h4 (by simp at hl; omega)]
    rw [show (16 * a + b) / 16 = a from by omega, show (16 * a + b) % 16 = b from by omega]
theorem Zt8 : ∀ p : List Int, isB p → rightP p = true → isB (kk p)
  | [], _, _ => fun x hx => by cases hx
  | [_], _, _ => fun x hx => by simp [kk] at hx
  | a :: b :: r, hb, hr => by
    have h0 := hb a (by simp)
    have h5 := rightP_iff.1 hr a (by simp)
    have h1 := rightP_iff.1 hr b (by simp)
    have h2 := hb b (by simp)
    have ih := Zt8 r (fun x hx => hb x (by simp [hx])) (rightP_iff.2 fun x hx => rightP_iff.1 hr x (by simp [hx]))
    intro x hx
    simp only [kk] at hx
    rcases List.mem_cons.1 hx with rfl | hx
    · omega
    · exact ih x hx
def keyP (p : List Int) : List Int × Bool := if rightP p = true ∧ p.length % 2 = 0 then (kk p, true) else ([], false)
theorem Zme {p : List Int} (h : rightP p = true) (h2 : p.length % 2 = 0) : keyP p = (kk p, true) := if_pos ⟨h, h2⟩
theorem Zk4 {p : List Int} (h : ¬ (rightP p = true ∧ p.length % 2 = 0)) : keyP p = ([], false) := if_neg h
def hdP (n : Nat) (leaf : Bool) : List Int := if n % 2 = 0 then [if leaf then 2 else 0, 0] else [(if leaf then 2 else 0) + 1]
theorem hd_len (n : Nat) (leaf : Bool) : (hdP n leaf).length = 2 - n % 2 := by
 unfold hdP
 split
 ·rename_i h; rw [h]; rfl
 ·rename_i h; rw [show n % 2 = 1 from by omega]; rfl
theorem Zyb (n : Nat) (leaf : Bool) : isB (hdP n leaf) := by
 unfold hdP
 cases leaf <;> split <;> (intro x hx; simp at hx; omega)
theorem Zmi (n : Nat) (leaf : Bool) : rightP (hdP n leaf) = true := by
 refine rightP_iff.2 ?_
 unfold hdP
 cases leaf <;> split <;> (intro x hx; simp at hx; omega)
def packP (p : List Int) (leaf : Bool) : List Int × Nat := if rightP p = true then (kk (hdP p.length leaf ++ p), 0) else ([], 40)
theorem packP_yes {p : List Int} {leaf : Bool} (h : rightP p = true) : packP p leaf = (kk (hdP p.length leaf ++ p), 0) := if_pos h
theorem Zh0 {p : List Int} {leaf : Bool} (h : rightP p = true) : rightP (hdP p.length leaf ++ p) = true := by rw [Zjh, Zmi, h]; rfl
theorem Zj5 (p : List Int) (leaf : Bool) : (hdP p.length leaf ++ p).length % 2 = 0 := by rw [List.length_append, hd_len]; omega
theorem Zmk {p : List Int} {leaf : Bool} (h : isB p) : isB (hdP p.length leaf ++ p) := by
 intro x hx
 rcases List.mem_append.1 hx with hx | hx
 ·exact Zyb _ _ x hx
 ·exact h x hx
theorem Zsf {p : List Int} {leaf : Bool} : keyP (hdP p.length leaf ++ p) = if rightP p = true then (kk (hdP p.length leaf ++ p), true) else ([], false) := by
 by_cases h : rightP p = true
 ·rw [if_pos h, Zme (Zh0 h) (Zj5 _ _)]
 ·rw [if_neg h, Zk4]
  rintro ⟨h1, _⟩
  rw [Zjh, Zmi] at h1
  exact h (by simpa using h1)
theorem pack_len {p : List Int} {leaf : Bool} : (kk (hdP p.length leaf ++ p)).length = p.length / 2 + 1 := by rw [Zqb, List.length_append, hd_len]; omega
abbrev badU (c : Int) : Prop := c / 16 > 3 ∨ (c / 16 % 2 = 0 ∧ c % 16 ≠ 0)
def unpP : List Int → List Int × Bool × Nat
  | [] => ([], false, 40)
  | c :: r => if badU c then ([], false, 40) else ((nib (c :: r)).drop (if c / 16 % 2 = 0 then 2 else 1), decide (c / 16 ≥ 2), 0)
theorem Zus : unpP [] = ([], false, 40) := rfl
theorem Zem (c : Int) (r : List Int) : unpP (c :: r) = if badU c then ([], false, 40) else ((nib (c :: r)).drop (if c / 16 % 2 = 0 then 2 else 1), decide (c / 16 ≥ 2), 0) := rfl
theorem Zut {b : List Int} (h : 0 < b.length) (hb : badU (b.getD 0 0)) : unpP b = ([], false, 40) := by
 cases b with
 | nil => simp at h
 | cons c r => exact if_pos hb
theorem Zrp {b : List Int} (h : 0 < b.length) (hb : ¬ badU (b.getD 0 0)) : unpP b = ((nib b).drop (if b.getD 0 0 / 16 % 2 = 0 then 2 else 1), decide (b.getD 0 0 / 16 ≥ 2), 0) := by
 cases b with
 | nil => simp at h
 | cons c r => exact if_neg hb
theorem unp_isB {b : List Int} (h : isB b) : isB (unpP b).1 := by
 cases b with
 | nil => intro x hx; cases hx
 | cons c r =>
  rw [Zem]
  split
  ·intro x hx; cases hx
  ·exact Zmg (Zpt h) _
theorem unp_le (b : List Int) : (unpP b).1.length ≤ 2 * b.length := by
 cases b with
 | nil => exact Nat.zero_le _
 | cons c r =>
  rw [Zem]
  split
  ·exact Nat.zero_le _
  ·rw [List.length_drop, Zef]; omega
theorem unp_pack {p : List Int} {leaf : Bool} (hb : isB p) (h : rightP p = true) : unpP (kk (hdP p.length leaf ++ p)) = (p, leaf, 0) := by
 have e := Zt7 _ (Zmk (leaf := leaf) hb) (Zh0 (leaf := leaf) h) (Zj5 p leaf)
 by_cases hp : p.length % 2 = 0
 ·have e1 : hdP p.length leaf = [if leaf then 2 else 0, 0] := if_pos hp
  rw [e1] at e ⊢
  simp only [List.cons_append, List.nil_append, kk] at e ⊢
  rw [Zem]
  have e2 : ¬ badU (16 * (if leaf = true then 2 else 0) + 0) := by unfold badU; cases leaf <;> simp
  rw [if_neg e2, e]
  cases leaf <;> simp
 ·have e1 : hdP p.length leaf = [(if leaf then 2 else 0) + 1] := if_neg hp
  rw [e1] at e ⊢
  cases p with
  | nil => simp at hp
  | cons y r =>
   have hy := rightP_iff.1 h y (by simp)
   have hy0 := hb y (by simp)
   simp only [List.cons_append, List.nil_append, kk] at e ⊢
   rw [Zem]
   have q1 : (16 * ((if leaf = true then 2 else 0) + 1) + y) / 16 = (if leaf = true then 2 else 0) + 1 := by cases leaf <;> simp <;> omega
   have e2 : ¬ badU (16 * ((if leaf = true then 2 else 0) + 1) + y) := by unfold badU; rw [q1]; cases leaf <;> simp
   rw [if_neg e2, e, q1]
   cases leaf <;> simp
theorem pack_unp {b : List Int} (hb : isB b) (h : (unpP b).2.2 = 0) : packP (unpP b).1 (unpP b).2.1 = (b, 0) := by
 cases b with
 | nil => simp [unpP] at h
 | cons c r =>
  obtain ⟨hc, hr⟩ := Zmh hb
  rw [Zem] at h ⊢
  by_cases hbad : badU c
  ·rw [if_pos hbad] at h; simp at h
  ·rw [if_neg hbad] at h ⊢
   simp only
   have hrn := Zjg hb
   by_cases h2 : c / 16 % 2 = 0
   ·have hz : c % 16 = 0 := Classical.byContradiction fun hn => hbad (.inr ⟨h2, hn⟩)
    have h3 : ¬ c / 16 > 3 := fun hn => hbad (.inl hn)
    rw [if_pos h2]
    have e : (nib (c :: r)).drop 2 = nib r := rfl
    rw [e, packP_yes (Zjg hr)]
    congr 1
    have e1 : hdP (nib r).length (decide (c / 16 ≥ 2)) = [c / 16, c % 16] := by
     unfold hdP
     rw [if_pos (by rw [Zef]; omega), hz]
     by_cases hge : c / 16 ≥ 2
     ·rw [decide_eq_true hge]; simp; omega
     ·rw [decide_eq_false hge]; simp; omega
    rw [e1]
    exact Zqa (c :: r)
   ·have h3 : ¬ c / 16 > 3 := fun hn => hbad (.inl hn)
    rw [if_neg h2]
    have e : (nib (c :: r)).drop 1 = c % 16 :: nib r := rfl
    have hrr : rightP (c % 16 :: nib r) = true := rightP_iff.2 fun x hx => rightP_iff.1 hrn x (by simp only [nib]; exact List.mem_cons_of_mem _ hx)
    rw [e, packP_yes hrr]
    congr 1
    have e1 : hdP (c % 16 :: nib r).length (decide (c / 16 ≥ 2)) = [c / 16] := by
     unfold hdP
     rw [if_neg (by rw [List.length_cons, Zef]; omega)]
     by_cases hge : c / 16 ≥ 2
     ·rw [decide_eq_true hge]; simp; omega
     ·rw [decide_eq_false hge]; simp; omega
    rw [e1]
    exact Zqa (c :: r)
def com : List Int → List Int → Nat
  | x :: p, y :: q => if x = y then com p q + 1 else 0
  | _, _ => 0
theorem com_le : ∀ p q : List Int, com p q ≤ p.length ∧ com p q ≤ q.length
  | [], _ => by simp [com]
  | _ :: _, [] => by simp [com]
  | x :: p, y :: q => by
    have := com_le p q
    simp only [com]
    split
    · simp; omega
    · simp
theorem com_take : ∀ p q : List Int, p.take (com p q) = q.take (com p q)
  | [], _ => by simp [com]
  | _ :: _, [] => by simp [com]
  | x :: p, y :: q => by
    simp only [com]
    split
    · rename_i h; subst h; simp [com_take p q]
    · simp
theorem Zmv : ∀ (p q : List Int) (n : Nat), n ≤ p.length → n ≤ q.length → p.take n = q.take n → (n = p.length ∨ n = q.length ∨ p.getD n 0 ≠ q.getD n 0) → com p q = n
  | [], q, n, h1, h2, h3, h4 => by simp at h1; simp [com, h1]
  | x :: p, [], n, h1, h2, h3, h4 => by simp at h2; simp [com, h2]
  | x :: p, y :: q, 0, h1, h2, h3, h4 => by
    simp only [com]
    rw [if_neg]
    rcases h4 with h | h | h
    · simp at h
    · simp at h
    · exact h
  | x :: p, y :: q, n + 1, h1, h2, h3, h4 => by
    simp only [List.take_succ_cons, List.cons.injEq] at h3
    simp only [com]
    rw [if_pos h3.1, Zmv p q n (by simpa using h1) (by simpa using h2) h3.2 (by simpa using h4)]
theorem Xbm : ∀ p q : List Int, com p q = com q p
  | [], [] => rfl
  | [], _ :: _ => rfl
  | _ :: _, [] => rfl
  | x :: p, y :: q => by
    simp only [com, Xbm p q]
    by_cases h : x = y
    · rw [if_pos h, if_pos h.symm]
    · rw [if_neg h, if_neg (fun e => h e.symm)]
def lessP : List Int → List Int → Bool
  | _, [] => false
  | [], _ :: _ => true
  | x :: p, y :: q => if x = y then lessP p q else decide (x < y)
theorem Xas : ∀ p q : List Int, (lessP p q || lessP q p) = !decide (p = q)
  | [], [] => rfl
  | [], y :: q => by simp [lessP]
  | x :: p, [] => by simp [lessP]
  | x :: p, y :: q => by
    simp only [lessP]
    by_cases h : x = y
    · subst h
      rw [if_pos rfl, if_pos rfl, Xas p q]
      simp
    · rw [if_neg h, if_neg (fun e => h e.symm)]
      have : x < y ∨ y < x := by omega
      rcases this with h1 | h1
      · simp [h, h1]
      · simp [h, h1]
end Go.Proofs.YtchgejomcgoaeaaGreat.Ni
namespace Go.Proofs.YtchgejomcgoaeaaGreat
open Ni (unpP packP rightP)
variable {dk dk' : List Int → Int} {b : List Int} {u : T}
structure PR where
  k : Int
  d : List Int
  i : List Int
structure PN where
  k : Int
  p : List Int
  v : List Int
  c : PR
  ks : List PR
def z32 : List Int := List.replicate 32 0
def r0 : PR := ⟨0, z32, []⟩
def n0 : PN := ⟨0, [], [], r0, []⟩
def t0 : T := .mk false [] []
def refOfP (t : T) : Option PR :=
  if t.l = true then (if (mP t).2 = 0 then some ⟨1, z32, enc t⟩ else none)
  else if t.bs.length = 0 then some r0
  else if t.bs.length = 32 then some ⟨2, t.bs, []⟩ else none
def pathP (x y : T) : Option PN :=
  if x.l = true ∨ (unpP x.bs).2.2 ≠ 0 then none
  else if (unpP x.bs).2.1 = true then (if y.l = true then none else some ⟨1, (unpP x.bs).1, y.bs, r0, []⟩)
  else match refOfP y with
    | none => none
    | some c => some ⟨2, (unpP x.bs).1, [], c, []⟩
def kidsP : List T → Option (List PR)
  | [] => some []
  | t :: r => match refOfP t with
    | none => none
    | some a => match kidsP r with
      | none => none
      | some l => some (a :: l)
def branchP (ts : List T) (y : T) : Option PN := match kidsP ts with
  | none => none
  | some ks => if y.l = true then none else some ⟨3, [], y.bs, r0, ks⟩
def nodeOfP (t : T) : Option PN :=
  if t.its.length = 2 then pathP (t.its.getD 0 t0) (t.its.getD 1 t0)
  else if t.its.length = 17 then branchP (t.its.take 16) (t.its.getD 16 t0) else none
def kd (o : Option PN) : Int := match o with
  | none => 0
  | some n => n.k
def rrefP (dk : List Int → Int) (r : PR) : Bool :=
  if r.k = 0 then decide (r.d = z32) && decide (r.i.length = 0)
  else if r.k = 2 then decide (r.i.length = 0)
  else if r.k = 1 then decide (r.d = z32) && decide (r.i.length < 32) && decide (dk r.i ≠ 0)
  else false
def rpathP (n : PN) : Bool :=
  if n.k = 2 then (if n.p.length = 0 then false else decide (n.p.length ≤ 64) && rightP n.p)
  else if n.k = 1 then decide (n.p.length ≤ 64) && rightP n.p
  else decide (n.p.length = 0)
def rvalueP (n : PN) : Bool :=
  if n.k = 1 then (if n.v.length = 0 then false else decide (n.v.length ≤ 256))
  else if n.k = 3 then decide (n.v.length ≤ 256)
  else decide (n.v.length = 0)
def rchildP (dk : List Int → Int) (n : PN) : Bool :=
  if rrefP dk n.c = false then false
  else if n.k ≠ 2 then decide (n.c.k = 0)
  else decide (n.c.k = 2) || decide (dk n.c.i = 3)
def ways : List PR → Nat
  | [] => 0
  | r :: l => (if r.k ≠ 0 then 1 else 0) + ways l
def rkidsP (dk : List Int → Int) (n : PN) : Bool :=
  if n.k ≠ 3 then decide (n.ks.length = 0)
  else if n.ks.length ≠ 16 then false
  else n.ks.all (rrefP dk) && decide (2 ≤ (if 0 < n.v.length then 1 else 0) + ways n.ks)
def knownP (n : PN) : Bool := decide (n.k = 1) || decide (n.k = 2) || decide (n.k = 3)
def nright (dk : List Int → Int) (n : PN) : Bool := knownP n && rpathP n && rvalueP n && rchildP dk n && rkidsP dk n
def ndec : Nat → List Int → Option PN
  | 0, _ => none
  | f + 1, b => match decP b with
    | .bad _ => none
    | .ok t => match nodeOfP t with
      | none => none
      | some n => if nright (fun i => kd (ndec f i)) n = true then some n else none
def ND (b : List Int) : Option PN := ndec 33 b
def KD (b : List Int) : Int := kd (ND b)
def NR (n : PN) : Bool := nright KD n
def refItemP (r : PR) : T :=
  if r.k = 1 then (match decP r.i with | .ok t => t | .bad _ => t0)
  else if r.k = 2 then .mk false r.d [] else t0
def itemP (n : PN) : T :=
  if n.k = 3 then .mk true [] (n.ks.map refItemP ++ [.mk false n.v []])
  else if n.k = 1 then .mk true [] [.mk false (packP n.p true).1 [], .mk false n.v []]
  else .mk true [] [.mk false (packP n.p false).1 [], refItemP n.c]
def isB (b : List Int) : Prop := ∀ x ∈ b, 0 ≤ x ∧ x < 256
def okR (r : PR) : Prop := isB r.d ∧ r.d.length = 32 ∧ isB r.i
def okN (n : PN) : Prop := isB n.p ∧ isB n.v ∧ okR n.c ∧ ∀ r ∈ n.ks, okR r

theorem Zhs {r : PR} (h : r.i.length < 32 → dk r.i = dk' r.i) : rrefP dk r = rrefP dk' r := by
 unfold rrefP
 by_cases h32 : r.i.length < 32
 ·rw [h h32]
 ·simp [h32]
theorem Ze7 {r : PR} (h : rrefP dk r = true) : r.i.length < 32 := by
 unfold rrefP at h
 by_cases h0 : r.k = 0
 ·simp [h0] at h; rw [h.2]; decide
 ·by_cases h2 : r.k = 2
  ·simp [h2] at h; rw [h]; decide
  ·by_cases h1 : r.k = 1
   ·simp [h1] at h; omega
   ·simp [h0, h1, h2] at h
theorem Zki {dk dk' : List Int → Int} : ∀ {ks : List PR}, (∀ r ∈ ks, r.i.length < 32 → dk r.i = dk' r.i) → ks.all (rrefP dk) = ks.all (rrefP dk')
  | [], _ => rfl
  | r :: l, h => by
    rw [List.all_cons, List.all_cons, Zhs (h r (by simp)), Zki fun x hx => h x (List.mem_cons_of_mem _ hx)]
theorem Zfj {n : PN} (hc : n.c.i.length < 32 → dk n.c.i = dk' n.c.i) (hk : ∀ r ∈ n.ks, r.i.length < 32 → dk r.i = dk' r.i) : nright dk n = nright dk' n := by
 unfold nright rchildP rkidsP
 rw [Zki hk, Zhs hc]
 by_cases h : rrefP dk' n.c = false
 ·simp [h]
 ·rw [hc (Ze7 (by simpa using h))]
theorem Zff {t : T} (hb : isB b) (h : decP b = .ok t) : enc t = b ∧ (mP t).2 = 0 ∧ form t = true := by
  have hr : rd 8 b = .ok t b.length := by
    unfold decP at h
    cases hq : rd 8 b with
    | bad e => rw [hq] at h; cases h
    | ok t' n =>
      rw [hq] at h
      dsimp only at h
      have := rd_n hq
      by_cases hn : n < b.length
      · rw [if_pos hn] at h; cases h
      · rw [if_neg hn] at h
        cases h
        rw [show n = b.length from by omega]
  obtain ⟨h1, h2⟩ := Zwg hb hr
  refine ⟨?_, h2, (Zg4 h2).2.2⟩
  unfold encP at h1
  rw [if_pos h2] at h1
  exact congrArg Prod.fst h1
theorem Zgx {t : T} (hf : form t = true) (h : 0 < t.its.length) : t.l = true ∧ t.bs = [] ∧ forms t.its = true := by
 obtain ⟨l, bs, its⟩ := t
 cases l with
 | false => rw [Zc7 hf] at h; exact absurd h (by simp [T.its])
 | true => exact ⟨rfl, Zez hf⟩
theorem encL {t : T} (h : t.l = true) (hb : t.bs = []) : enc t = hd 192 (encs t.its).length ++ encs t.its := by
 obtain ⟨l, bs, its⟩ := t
 simp only [T.l, T.bs] at h hb
 subst h hb
 rw [Zb9, List.nil_append, if_neg (by simp [bare]), baseOf, if_pos rfl]
 rfl
theorem Zg1 {l : List T} {i : Nat} (h : i < l.length) : l.getD i t0 ∈ l := by
 rw [List.getD, List.getElem?_eq_getElem h]
 exact List.getElem_mem h
theorem Zfp : ∀ {its : List T} {t : T}, t ∈ its → ∀ x ∈ enc t, x ∈ encs its
  | y :: r, t, ht, x, hx => by
    rw [Za9]
    rcases List.mem_cons.1 ht with rfl | ht
    · exact List.mem_append_left _ hx
    · exact List.mem_append_right _ (Zfp ht x hx)
theorem Zko {t : T} (hb : isB b) (h : decP b = .ok t) (hu : u ∈ t.its) : (enc u).length < b.length ∧ ∀ x ∈ enc u, x ∈ b := by
 obtain ⟨h1, h2, h3⟩ := Zff hb h
 obtain ⟨l1, l2, l3⟩ := Zgx h3 (List.length_pos_of_mem hu)
 rw [encL l1 l2] at h1
 have := Zdg hu
 have := Zmj 192 (encs t.its).length
 rw [← h1]
 refine ⟨by rw [List.length_append]; omega, fun x hx => List.mem_append_right _ (Zfp hu x hx)⟩
theorem Zu9 {r : PR} (h : refOfP u = some r) : r.i = enc u ∨ r.i = [] := by
 unfold refOfP at h
 by_cases hl : u.l = true
 ·rw [if_pos hl] at h
  by_cases hm : (mP u).2 = 0
  ·rw [if_pos hm] at h; cases h; exact .inl rfl
  ·rw [if_neg hm] at h; cases h
 ·rw [if_neg hl] at h
  by_cases h0 : u.bs.length = 0
  ·rw [if_pos h0] at h; cases h; exact .inr rfl
  ·rw [if_neg h0] at h
   by_cases h32 : u.bs.length = 32
   ·rw [if_pos h32] at h; cases h; exact .inr rfl
   ·rw [if_neg h32] at h; cases h
theorem Ziw : ∀ {ts : List T} {ks : List PR}, kidsP ts = some ks → ks.length = ts.length ∧ ∀ r ∈ ks, ∃ u ∈ ts, refOfP u = some r
  | [], ks, h => by cases h; exact ⟨rfl, fun r hr => by cases hr⟩
  | t :: l, ks, h => by
    rw [kidsP] at h
    cases hr : refOfP t with
    | none => rw [hr] at h; cases h
    | some a =>
      rw [hr] at h
      dsimp only at h
      cases hk : kidsP l with
      | none => rw [hk] at h; cases h
      | some l' =>
        rw [hk] at h
        cases h
        obtain ⟨h1, h2⟩ := Ziw hk
        refine ⟨by simp [h1], fun r hr' => ?_⟩
        rcases List.mem_cons.1 hr' with rfl | hr'
        · exact ⟨t, by simp, hr⟩
        · obtain ⟨u, hu, e⟩ := h2 r hr'
          exact ⟨u, by simp [hu], e⟩
theorem Zgp {t : T} {n : PN} (h : nodeOfP t = some n) : 0 < t.its.length ∧ ∀ r, (r = n.c ∨ r ∈ n.ks) → r.i = [] ∨ ∃ u ∈ t.its, refOfP u = some r := by
  unfold nodeOfP at h
  by_cases h2 : t.its.length = 2
  · rw [if_pos h2] at h
    refine ⟨by omega, ?_⟩
    unfold pathP at h
    split at h
    · cases h
    · split at h
      · split at h
        · cases h
        · cases h
          intro r hr
          rcases hr with rfl | hr
          · exact .inl rfl
          · cases hr
      · cases hq : refOfP (t.its.getD 1 t0) with
        | none => rw [hq] at h; cases h
        | some c =>
          rw [hq] at h
          cases h
          intro r hr
          rcases hr with rfl | hr
          · exact .inr ⟨_, Zg1 (by omega), hq⟩
          · cases hr
  · rw [if_neg h2] at h
    by_cases h17 : t.its.length = 17
    · rw [if_pos h17] at h
      refine ⟨by omega, ?_⟩
      unfold branchP at h
      cases hk : kidsP (t.its.take 16) with
      | none => rw [hk] at h; cases h
      | some ks =>
        rw [hk] at h
        dsimp only at h
        split at h
        · cases h
        · cases h
          intro r hr
          rcases hr with rfl | hr
          · exact .inl rfl
          · obtain ⟨u, hu, e⟩ := (Ziw hk).2 r hr
            exact .inr ⟨u, List.mem_of_mem_take hu, e⟩
    · rw [if_neg h17] at h; cases h
theorem Zes {t : T} {n : PN} (hb : isB b) (h : decP b = .ok t) (hn : nodeOfP t = some n) : ∀ r, (r = n.c ∨ r ∈ n.ks) → r.i.length < b.length ∧ isB r.i := by
 obtain ⟨h0, hr⟩ := Zgp hn
 have hu0 := (Zko hb h (Zg1 h0)).1
 intro r hrr
 rcases hr r hrr with e | ⟨u, hu, e⟩
 ·rw [e]; exact ⟨by simp; omega, fun x hx => by cases hx⟩
 ·obtain ⟨s1, s2⟩ := Zko hb h hu
  rcases Zu9 e with e | e
  ·rw [e]; exact ⟨s1, fun x hx => hb x (s2 x hx)⟩
  ·rw [e]; exact ⟨by simp; omega, fun x hx => by cases hx⟩
theorem Zpw : ∀ (L : Nat) (b : List Int), b.length ≤ L → isB b → ∀ f f', b.length < f → b.length < f' → ndec f b = ndec f' b := by
  intro L
  induction L using Nat.strongRecOn with
  | _ L ih =>
    intro b hL hb f f' hf hf'
    obtain ⟨g, rfl⟩ : ∃ g, f = g + 1 := ⟨f - 1, by omega⟩
    obtain ⟨g', rfl⟩ : ∃ g', f' = g' + 1 := ⟨f' - 1, by omega⟩
    rw [ndec, ndec]
    cases hd : decP b with
    | bad e => rfl
    | ok t =>
      dsimp only
      cases hn : nodeOfP t with
      | none => rfl
      | some n =>
        dsimp only
        have hs := Zes hb hd hn
        have hcg : ∀ r, (r = n.c ∨ r ∈ n.ks) → ndec g r.i = ndec g' r.i := fun r hr => by
          obtain ⟨s1, s2⟩ := hs r hr
          exact ih r.i.length (by omega) r.i (Nat.le_refl _) s2 g g' (by omega) (by omega)
        rw [Zfj (dk := fun i => kd (ndec g i)) (dk' := fun i => kd (ndec g' i)) (fun _ => by rw [hcg _ (.inl rfl)]) (fun r hr _ => by rw [hcg _ (.inr hr)])]
theorem Zyz (hb : isB b) : ND b = match decP b with
    | .bad _ => none
    | .ok t => match nodeOfP t with
      | none => none
      | some n => if NR n = true then some n else none := by
  show ndec (32 + 1) b = _
  rw [ndec]
  cases hd : decP b with
  | bad e => rfl
  | ok t =>
    dsimp only
    cases hn : nodeOfP t with
    | none => rfl
    | some n =>
      dsimp only
      have hs := Zes hb hd hn
      have hcg : ∀ r, (r = n.c ∨ r ∈ n.ks) → r.i.length < 32 → ndec 32 r.i = ND r.i := fun r hr h32 => by
        obtain ⟨s1, s2⟩ := hs r hr
        exact Zpw r.i.length r.i (Nat.le_refl _) s2 32 33 (by omega) (by omega)
      rw [Zfj (dk := fun i => kd (ndec 32 i)) (dk' := KD) (fun h => by unfold KD; rw [hcg _ (.inl rfl) h]) (fun r hr h => by unfold KD; rw [hcg _ (.inr hr) h])]
      rfl
theorem Zel {n : PN} (hb : isB b) (h : ND b = some n) : ∃ t, decP b = .ok t ∧ nodeOfP t = some n ∧ NR n = true := by
  rw [Zyz hb] at h
  cases hd : decP b with
  | bad e => rw [hd] at h; cases h
  | ok t =>
    rw [hd] at h
    dsimp only at h
    cases hn : nodeOfP t with
    | none => rw [hn] at h; cases h
    | some m =>
      rw [hn] at h
      dsimp only at h
      by_cases hr : NR m = true
      · rw [if_pos hr] at h; cases h; exact ⟨t, rfl, hn, hr⟩
      · rw [if_neg hr] at h; cases h
theorem Zwq {n : PN} (h : NR n = true) : n.k = 1 ∨ n.k = 2 ∨ n.k = 3 := by
 unfold NR nright knownP at h
 simp only [Bool.and_eq_true, Bool.or_eq_true, decide_eq_true_eq] at h
 omega
theorem Zhb (h : KD b ≠ 0) : ∃ n, ND b = some n ∧ n.k = KD b := by
 unfold KD at h ⊢
 cases hq : ND b with
 | none => rw [hq] at h; exact absurd rfl h
 | some n => exact ⟨n, rfl, rfl⟩
end Go.Proofs.YtchgejomcgoaeaaGreat

/- A Put and a Delete take each other back. -/
import Derived.Test.YtefhepcplempkaaGreatG21
import Derived.Test.YtefhepcplempkaaGreatG19
set_option linter.unusedVariables false
set_option maxRecDepth 100000
namespace Go.Proofs.YtefhepcplempkaaGreat
namespace Tr
end Tr
end Go.Proofs.YtefhepcplempkaaGreat
namespace Go.Proofs.YtefhepcplempkaaGreat
open Ni (lessP Zey)
theorem Zb5 : ∀ a : List Int, lessP a a = false
 | [] => rfl
 | x :: r => by simp [lessP, Zb5 r]
theorem Zbw : ∀ a b c : List Int, lessP a b = true -> lessP b c = true -> lessP a c = true
 | [], [], _, h, _ => by simp [lessP] at h
 | [], _ :: _, [], _, h => by simp [lessP] at h
 | [], _ :: _, _ :: _, _, _ => rfl
 | _ :: _, [], _, h, _ => by simp [lessP] at h
 | _ :: _, _ :: _, [], _, h => by simp [lessP] at h
 | x :: a, y :: b, z :: c, h, k => by
  simp only [lessP] at h k ⊢
  by_cases h1 : x = y
  ·subst h1
   rw [if_pos rfl] at h
   by_cases h2 : x = z
   ·subst h2
    rw [if_pos rfl] at k ⊢
    exact Zbw a b c h k
   ·rw [if_neg h2] at k ⊢
    exact k
  ·rw [if_neg h1] at h
   by_cases h2 : y = z
   ·subst h2
    rw [if_neg h1]
    exact h
   ·rw [if_neg h2] at k
    have h3 := of_decide_eq_true h
    have h4 := of_decide_eq_true k
    rw [if_neg (by omega)]
    exact decide_eq_true (by omega)
theorem Zex (a b : List Int) (h : a ≠ b) (k : lessP a b = false) : lessP b a = true := by
 have := Zey a b
 simpa [h, k] using this
def cmpP (a b : List Int) : Int := if a = b then 0 else if lessP a b then -1 else 1
theorem Zz2 (a b : List Int) : decide (cmpP a b < 0) = lessP a b := by
 unfold cmpP
 by_cases h : a = b
 ·subst h; simp [Zb5]
 ·rw [if_neg h]
  cases lessP a b <;> simp
def SrtB (M : List (List Int)) : Prop := M.Pairwise fun a b => lessP a b = true
theorem Zj7 : ∀ A B : List (List Int), SrtB A -> SrtB B -> (∀ x, x ∈ A ↔ x ∈ B) -> A = B
 | [], [], _, _, _ => rfl
 | [], b :: B, _, _, h => by have := (h b).2 (by simp); simp at this
 | a :: A, [], _, _, h => by have := (h a).1 (by simp); simp at this
 | a :: A, b :: B, hA, hB, h => by
  obtain ⟨ha, hA'⟩ := List.pairwise_cons.1 hA
  obtain ⟨hb, hB'⟩ := List.pairwise_cons.1 hB
  have e : a = b := by
   rcases List.mem_cons.1 ((h a).1 (by simp)) with q | q
   ·exact q
   ·rcases List.mem_cons.1 ((h b).2 (by simp)) with p | p
    ·exact p.symm
    ·have := Zbw _ _ _ (ha _ p) (hb _ q)
     rw [Zb5] at this; cases this
  subst e
  congr 1
  refine Zj7 A B hA' hB' fun x => ⟨fun hx => ?_, fun hx => ?_⟩
  ·rcases List.mem_cons.1 ((h x).1 (List.mem_cons_of_mem _ hx)) with q | q
   ·subst q
    have := ha _ hx
    rw [Zb5] at this; cases this
   ·exact q
  ·rcases List.mem_cons.1 ((h x).2 (List.mem_cons_of_mem _ hx)) with q | q
   ·subst q
    have := hb _ hx
    rw [Zb5] at this; cases this
   ·exact q
def ddg (p : List Int) : List (List Int) -> List (List Int)
 | [] => []
 | y :: r => if y = p then ddg p r else y :: ddg y r
def dd : List (List Int) -> List (List Int)
 | [] => []
 | x :: r => x :: ddg x r
theorem Zjs (b a : List Int) : ∀ (M : List (List Int)) (p : List Int), ddg p (M ++ [a, b]) = ddg p (M ++ [a]) ++ (if b = a then [] else [b])
 | [], p => by
  simp only [List.nil_append, ddg]
  by_cases h : a = p
  ·subst h
   by_cases k : b = a <;> simp [k]
  ·simp only [if_neg h]
   by_cases k : b = a <;> simp [k]
 | y :: M, p => by
  simp only [List.cons_append, ddg]
  by_cases h : y = p
  ·rw [if_pos h, if_pos h]; exact Zjs b a M p
  ·rw [if_neg h, if_neg h, Zjs b a M y, List.cons_append]
theorem Zx0 (M : List (List Int)) (a b : List Int) : dd (M ++ [a, b]) = dd (M ++ [a]) ++ (if b = a then [] else [b]) := by
 cases M with
 | nil => simp only [List.nil_append, dd, ddg]; by_cases h : b = a <;> simp [h]
 | cons x M => simp only [List.cons_append, dd]; rw [Zjs]
theorem Zl3 (x : List Int) : ∀ (M : List (List Int)) (p : List Int), (x = p \/ x ∈ ddg p M) ↔ (x = p \/ x ∈ M)
 | [], p => by simp [ddg]
 | y :: M, p => by
  simp only [ddg]
  by_cases h : y = p
  ·subst h
   rw [if_pos rfl, Zl3 x M y]
   constructor
   ·rintro (q | q)
    ·exact .inl q
    ·exact .inr (List.mem_cons_of_mem _ q)
   ·rintro (q | q)
    ·exact .inl q
    ·rcases List.mem_cons.1 q with q | q
     ·exact .inl q
     ·exact .inr q
  ·rw [if_neg h]
   have := Zl3 x M y
   simp only [List.mem_cons]
   constructor
   ·rintro (q | q)
    ·exact .inl q
    ·exact .inr (this.1 q)
   ·rintro (q | q)
    ·exact .inl q
    ·exact .inr (this.2 q)
theorem Zzi (x : List Int) (M : List (List Int)) : x ∈ dd M ↔ x ∈ M := by
 cases M with
 | nil => rfl
 | cons y M =>
  simp only [dd, List.mem_cons]
  exact Zl3 x M y
theorem Zmc : ∀ (M : List (List Int)) (p : List Int), (p :: M).Pairwise (fun a b => lessP b a = false) -> SrtB (p :: ddg p M)
 | [], p, _ => by simp [ddg, SrtB]
 | y :: M, p, h => by
  obtain ⟨h1, h2⟩ := List.pairwise_cons.1 h
  obtain ⟨h3, h4⟩ := List.pairwise_cons.1 h2
  simp only [ddg]
  by_cases e : y = p
  ·subst e
   rw [if_pos rfl]
   exact Zmc M y h2
  ·rw [if_neg e]
   have ih := Zmc M y h2
   refine List.pairwise_cons.2 ⟨fun z hz => ?_, ih⟩
   have hpy := Zex y p e (h1 y (by simp))
   rcases List.mem_cons.1 hz with q | q
   ·rw [q]; exact hpy
   ·exact Zbw _ _ _ hpy ((List.pairwise_cons.1 ih).1 z q)
theorem Zzy (M : List (List Int)) (h : M.Pairwise (fun a b => lessP b a = false)) : SrtB (dd M) := by
 cases M with
 | nil => simp [dd, SrtB]
 | cons y M => exact Zmc M y h
theorem Zz1 : ∀ M : List (List Int), (dd M).length <= M.length := by
 have h : ∀ (M : List (List Int)) (p : List Int), (ddg p M).length <= M.length := by
  intro M
  induction M with
  | nil => intro p; simp [ddg]
  | cons y M ih => intro p; simp only [ddg]; split <;> simp <;> (have := ih p; have := ih y; omega)
 intro M
 cases M with
 | nil => simp [dd]
 | cons x M => simp only [dd, List.length_cons]; have := h M x; omega
end Go.Proofs.YtefhepcplempkaaGreat
namespace Go.Proofs.YtefhepcplempkaaGreat
open Tr
open Ni (lessP)
def entsR : Tr -> PList
 | no => []
 | leaf q x => [(q, x)]
 | ext q c => (entsR c).map fun e => (q ++ e.1, e.2)
 | br k x => (if x = [] then [] else [([], x)]) ++ (List.range 16).flatMap fun i => (entsR (k i)).map fun e => (((i : Nat) : Int) :: e.1, e.2)
def SrtP (l : PList) : Prop := l.Pairwise fun e f => lessP e.1 f.1 = true
def Byk (k : List Int) : Prop := ∀ y ∈ k, 0 <= y /\ y < 256
def atN (k : List Int) : PList -> Nat
 | [] => 0
 | e :: r => if lessP e.1 k then atN k r + 1 else 0
theorem Zn0 (k : List Int) : ∀ l : PList, atN k l <= l.length
 | [] => Nat.le_refl _
 | e :: r => by have := Zn0 k r; simp only [atN]; split <;> simp <;> omega
def isAt (k : List Int) (l : PList) : Bool := match l[atN k l]? with
 | some e => decide (e.1 = k)
 | none => false
def putR (k x : List Int) : PList -> PList
 | [] => [(k, x)]
 | e :: r => if lessP e.1 k then e :: putR k x r else if e.1 = k then (k, x) :: r else (k, x) :: e :: r
def delR (k : List Int) : PList -> PList
 | [] => []
 | e :: r => if lessP e.1 k then e :: delR k r else if e.1 = k then r else e :: r
theorem Zk5 (k : List Int) (e : List Int × List Int) (r : PList) : isAt k (e :: r) = if lessP e.1 k then isAt k r else decide (e.1 = k) := by
 unfold isAt
 simp only [atN]
 by_cases h : lessP e.1 k = true
 ·simp [h]
 ·simp [h]
theorem Zja (k x : List Int) : ∀ l : PList, putR k x l = l.take (atN k l) ++ [(k, x)] ++ l.drop (if isAt k l then atN k l + 1 else atN k l)
 | [] => by simp [putR, atN, isAt]
 | e :: r => by
  have ih := Zja k x r
  rw [Zk5]
  simp only [putR, atN]
  by_cases h : lessP e.1 k = true
  ·simp only [h, if_true]
   rw [ih]
   cases isAt k r <;> simp
  ·simp only [h, Bool.false_eq_true, if_false]
   by_cases e1 : e.1 = k
   ·simp [e1]
   ·simp [e1]
theorem Zjk (k : List Int) : ∀ l : PList, SrtP l -> (isAt k l = true ↔ ∃ x, (k, x) ∈ l)
 | [], _ => by simp [isAt]
 | e :: r, h => by
  obtain ⟨h1, h2⟩ := List.pairwise_cons.1 h
  rw [Zk5]
  by_cases hl : lessP e.1 k = true
  ·rw [if_pos hl, Zjk k r h2]
   constructor
   ·rintro ⟨x, hx⟩; exact ⟨x, List.mem_cons_of_mem _ hx⟩
   ·rintro ⟨x, hx⟩
    rcases List.mem_cons.1 hx with q | q
    ·rw [<- q] at hl; simp [Zb5] at hl
    ·exact ⟨x, q⟩
  ·rw [if_neg hl]
   constructor
   ·intro hd
    have := of_decide_eq_true hd
    exact ⟨e.2, by rw [<- this]; simp⟩
   ·rintro ⟨x, hx⟩
    rcases List.mem_cons.1 hx with q | q
    ·exact decide_eq_true (by rw [<- q])
    ·exact absurd (h1 _ q) hl
theorem Zgi (k x : List Int) : ∀ l : PList, SrtP l -> ∀ k' x', (k', x') ∈ putR k x l ↔ (k' = k /\ x' = x) \/ (k' ≠ k /\ (k', x') ∈ l)
 | [], _, k', x' => by simp [putR]
 | e :: r, h, k', x' => by
  obtain ⟨h1, h2⟩ := List.pairwise_cons.1 h
  have ih := Zgi k x r h2 k' x'
  simp only [putR]
  by_cases hl : lessP e.1 k = true
  ·rw [if_pos hl, List.mem_cons, ih, List.mem_cons]
   have hne : e.1 ≠ k := fun e1 => by rw [e1, Zb5] at hl; cases hl
   constructor
   ·rintro (q | q | q)
    ·exact .inr ⟨by rw [<- q] at hne; exact hne, .inl q⟩
    ·exact .inl q
    ·exact .inr ⟨q.1, .inr q.2⟩
   ·rintro (q | ⟨q1, q2 | q2⟩)
    ·exact .inr (.inl q)
    ·exact .inl q2
    ·exact .inr (.inr ⟨q1, q2⟩)
  ·rw [if_neg hl]
   by_cases e1 : e.1 = k
   ·rw [if_pos e1, List.mem_cons, List.mem_cons, Prod.mk.injEq]
    constructor
    ·rintro (q | q)
     ·exact .inl q
     ·refine .inr ⟨fun e2 => ?_, .inr q⟩
      have := h1 _ q
      rw [e1, e2, Zb5] at this; cases this
    ·rintro (q | ⟨q1, q2 | q2⟩)
     ·exact .inl q
     ·exact absurd (by rw [<- e1, <- q2]) q1
     ·exact .inr q2
   ·rw [if_neg e1, List.mem_cons, List.mem_cons, Prod.mk.injEq]
    constructor
    ·rintro (q | q)
     ·exact .inl q
     ·refine .inr ⟨fun e2 => ?_, q⟩
      have hke := Zex e.1 k e1 (by simpa using hl)
      rcases q with q | q
      ·exact e1 (by rw [<- q]; exact e2)
      ·have := Zbw _ _ _ hke (h1 _ q)
       rw [e2, Zb5] at this; cases this
    ·rintro (q | ⟨q1, q2⟩)
     ·exact .inl q
     ·exact .inr q2
theorem Zmq (k x : List Int) : ∀ l : PList, SrtP l -> SrtP (putR k x l)
 | [], _ => by simp [putR, SrtP]
 | e :: r, h => by
  obtain ⟨h1, h2⟩ := List.pairwise_cons.1 h
  simp only [putR]
  by_cases hl : lessP e.1 k = true
  ·rw [if_pos hl]
   refine List.pairwise_cons.2 ⟨fun f hf => ?_, Zmq k x r h2⟩
   obtain ⟨f1, f2⟩ := f
   rcases (Zgi k x r h2 f1 f2).1 hf with q | q
   ·rw [q.1]; exact hl
   ·exact h1 _ q.2
  ·rw [if_neg hl]
   by_cases e1 : e.1 = k
   ·rw [if_pos e1]
    exact List.pairwise_cons.2 ⟨fun f hf => by have := h1 f hf; rw [e1] at this; exact this, h2⟩
   ·rw [if_neg e1]
    have hke := Zex e.1 k e1 (by simpa using hl)
    refine List.pairwise_cons.2 ⟨fun f hf => ?_, h⟩
    rcases List.mem_cons.1 hf with q | q
    ·rw [q]; exact hke
    ·exact Zbw _ _ _ hke (h1 f q)
theorem Zng (k x : List Int) : ∀ l : PList, (putR k x l).length <= l.length + 1
 | [] => by simp [putR]
 | e :: r => by
  have := Zng k x r
  simp only [putR]
  split
  ·simp; omega
  ·split <;> simp
end Go.Proofs.YtefhepcplempkaaGreat
namespace Go.Proofs.YtefhepcplempkaaGreat
open Go.RowKit
open Tr
structure Opx where
 z : Int
 ka : Option Addr
 kn : Nat
 kc : Nat
 va : Option Addr
 vn : Nat
 vc : Nat
 k : List Int
 x : List Int
def Opx.cells (y : Opx) : Array Value := #[.int .i64 y.z, .slice y.ka y.kn y.kc, .slice y.va y.vn y.vc]
def An : Nat -> Prop := fun _ => True
structure OAt (w : World) (a : Option Addr) (n : Nat) (xs : List Opx) : Prop where
 len : xs.length = n
 row : ∀ j y, xs[j]? = some y -> ∃ g off, a = some ⟨g, off, none⟩ /\ w.rangeAt g (off + j * 3) y.cells.toList
 k : ∀ y ∈ xs, Ag w y.ka y.kn y.kc y.k
 x : ∀ y ∈ xs, Ag w y.va y.vn y.vc y.x
end Go.Proofs.YtefhepcplempkaaGreat

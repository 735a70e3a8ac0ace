/- A Put and a Delete take each other back. -/
import Derived.Test.YtdkpilgelgjieaaGreatG21
import Derived.Test.YtdkpilgelgjieaaGreatG19
namespace Go.Proofs.YtdkpilgelgjieaaGreat
set_option linter.unusedVariables false
namespace Tr
end Tr
end Go.Proofs.YtdkpilgelgjieaaGreat
/- Byte strings in order: what is sorted and rid of its doubles is told by its members. -/
namespace Go.Proofs.YtdkpilgelgjieaaGreat
set_option linter.unusedVariables false
open Ni (lessP less_one)
theorem less_irr : ∀ a : List Int, lessP a a = false
  | [] => rfl
  | x :: r => by simp [lessP, less_irr r]
theorem less_trans : ∀ a b c : List Int, lessP a b = true → lessP b c = true → lessP a c = true
  | [], [], _, h, _ => by simp [lessP] at h
  | [], _ :: _, [], _, h => by simp [lessP] at h
  | [], _ :: _, _ :: _, _, _ => rfl
  | _ :: _, [], _, h, _ => by simp [lessP] at h
  | _ :: _, _ :: _, [], _, h => by simp [lessP] at h
  | x :: a, y :: b, z :: c, h, k => by
    simp only [lessP] at h k ⊢
    by_cases h1 : x = y
    · subst h1
      rw [if_pos rfl] at h
      by_cases h2 : x = z
      · subst h2
        rw [if_pos rfl] at k ⊢
        exact less_trans a b c h k
      · rw [if_neg h2] at k ⊢
        exact k
    · rw [if_neg h1] at h
      by_cases h2 : y = z
      · subst h2
        rw [if_neg h1]
        exact h
      · rw [if_neg h2] at k
        have h3 := of_decide_eq_true h
        have h4 := of_decide_eq_true k
        rw [if_neg (by omega)]
        exact decide_eq_true (by omega)
theorem less_tot (a b : List Int) (h : a ≠ b) (k : lessP a b = false) : lessP b a = true := by
  have := less_one a b
  simpa [h, k] using this
def cmpP (a b : List Int) : Int := if a = b then 0 else if lessP a b then -1 else 1
/-- Rising. -/
def SrtB (M : List (List Int)) : Prop := M.Pairwise fun a b => lessP a b = true
/-- Rid of doubles that stand beside each other. -/
def ddg (p : List Int) : List (List Int) → List (List Int)
  | [] => []
  | y :: r => if y = p then ddg p r else y :: ddg y r
def dd : List (List Int) → List (List Int)
  | [] => []
  | x :: r => x :: ddg x r
end Go.Proofs.YtdkpilgelgjieaaGreat
/- Keys and values as a list in order, and what a tree has to do with it. -/
namespace Go.Proofs.YtdkpilgelgjieaaGreat
open Tr
open Ni (lessP)
set_option linter.unusedVariables false
/-- Nibble paths and values of a tree, in order. -/
def entsR : Tr → PList
  | no => []
  | leaf q x => [(q, x)]
  | ext q c => (entsR c).map fun e => (q ++ e.1, e.2)
  | br k x => (if x = [] then [] else [([], x)]) ++ (List.range 16).flatMap fun i => (entsR (k i)).map fun e => (((i : Nat) : Int) :: e.1, e.2)
theorem flatMap_congr' {α β : Type} (f g : α → List β) : ∀ l : List α, (∀ i ∈ l, f i = g i) → l.flatMap f = l.flatMap g
  | [], _ => rfl
  | a :: l, h => by rw [List.flatMap_cons, List.flatMap_cons, h a (by simp), flatMap_congr' f g l (fun i hi => h i (List.mem_cons_of_mem _ hi))]
theorem entsF_eq : ∀ (t : Tr) (q : List Int), entsF q t = (entsR t).map fun e => ((Ni.keyP (q ++ e.1)).1, e.2) := by
  intro t
  induction t with
  | no => intro q; rfl
  | leaf p x => intro q; rfl
  | ext p c ih => intro q; simp [entsF, entsR, ih, List.append_assoc]
  | br k x ih =>
    intro q
    simp only [entsF, entsR, List.map_append, List.map_flatMap]
    congr 1
    · by_cases h : x = [] <;> simp [h]
    · refine flatMap_congr' _ _ _ (fun i _ => ?_)
      rw [ih i]
      by_cases h : (k i).isNo = true
      · rw [if_pos h]
        cases hk : k i <;> simp_all [isNo, entsR]
      · rw [if_neg h]
        simp [List.map_map, Function.comp, List.append_assoc]
theorem less_app (q a b : List Int) : lessP (q ++ a) (q ++ b) = lessP a b := by
  induction q with
  | nil => rfl
  | cons x q ih => simp [lessP, ih]
def SrtP (l : PList) : Prop := l.Pairwise fun e f => lessP e.1 f.1 = true
theorem pw_flatMap {α : Type} {R : α → α → Prop} (f : Nat → List α) : ∀ n : Nat, (∀ i, i < n → (f i).Pairwise R) → (∀ i j, i < j → j < n → ∀ a ∈ f i, ∀ b ∈ f j, R a b) → ((List.range n).flatMap f).Pairwise R
  | 0, _, _ => by simp
  | n + 1, h1, h2 => by
    rw [List.range_succ, List.flatMap_append, List.pairwise_append]
    refine ⟨pw_flatMap f n (fun i hi => h1 i (by omega)) (fun i j hij hj => h2 i j hij (by omega)), by simpa using h1 n (by omega), ?_⟩
    intro a ha b hb
    obtain ⟨i, hi, hai⟩ := List.mem_flatMap.1 ha
    have hb' : b ∈ f n := by simpa using hb
    exact h2 i n (List.mem_range.1 hi) (by omega) a hai b hb'
theorem srt_ents : ∀ t : Tr, SrtP (entsR t) := by
  intro t
  induction t with
  | no => simp [entsR, SrtP]
  | leaf p x => simp [entsR, SrtP]
  | ext p c ih =>
    simp only [entsR, SrtP, List.pairwise_map] at ih ⊢
    exact ih.imp (fun h => by rw [less_app]; exact h)
  | br k x ih =>
    simp only [entsR, SrtP]
    rw [List.pairwise_append]
    refine ⟨?_, ?_, ?_⟩
    · by_cases h : x = [] <;> simp [h]
    · refine pw_flatMap _ 16 (fun i hi => ?_) (fun i j hij hj a ha b hb => ?_)
      · rw [List.pairwise_map]
        exact (ih i).imp (fun h => by simp [lessP, h])
      · obtain ⟨e, _, rfl⟩ := List.mem_map.1 ha
        obtain ⟨f, _, rfl⟩ := List.mem_map.1 hb
        simp only [lessP]
        rw [if_neg (by omega)]
        exact decide_eq_true (by omega)
    · intro a ha b hb
      obtain ⟨i, _, hbi⟩ := List.mem_flatMap.1 hb
      obtain ⟨f, _, rfl⟩ := List.mem_map.1 hbi
      by_cases h : x = []
      · simp [h] at ha
      · simp [h] at ha
        rw [ha]; rfl
theorem mem_ents : ∀ (t : Tr) {B : Nat}, Tr.Ok B t → ∀ p x, (p, x) ∈ entsR t ↔ (Nb p ∧ Tr.get t p = x ∧ x ≠ []) := by
  intro t
  induction t with
  | no => intro B hO; exact hO.elim
  | leaf q v =>
    intro B hO p x
    simp only [entsR, List.mem_singleton, Prod.mk.injEq, Tr.get]
    constructor
    · rintro ⟨rfl, rfl⟩
      exact ⟨hO.1, if_pos rfl, hO.2.2⟩
    · rintro ⟨h1, h2, h3⟩
      by_cases e : p = q
      · rw [if_pos e] at h2; exact ⟨e, h2.symm⟩
      · rw [if_neg e] at h2; exact absurd h2.symm h3
  | ext q c ih =>
    intro B hO p x
    obtain ⟨o1, o2, o3, o4, o5⟩ := hO
    simp only [entsR, List.mem_map, Prod.mk.injEq, Tr.get]
    constructor
    · rintro ⟨⟨p', x'⟩, hm, rfl, rfl⟩
      obtain ⟨h1, h2, h3⟩ := (ih o5 p' x').1 hm
      exact ⟨o1.app h1, by simp [h2], h3⟩
    · rintro ⟨h1, h2, h3⟩
      by_cases e : p.take q.length = q
      · rw [if_pos e] at h2
        refine ⟨(p.drop q.length, x), (ih o5 _ _).2 ⟨h1.drop _, h2, h3⟩, ?_, rfl⟩
        have := List.take_append_drop q.length p
        rw [e] at this
        exact this
      · rw [if_neg e] at h2; exact absurd h2.symm h3
  | br k v ih =>
    intro B hO p x
    simp only [entsR, List.mem_append, List.mem_flatMap, List.mem_range, List.mem_map, Prod.mk.injEq]
    constructor
    · rintro (h | ⟨i, hi, ⟨p', x'⟩, hm, rfl, rfl⟩)
      · by_cases e : v = []
        · simp [e] at h
        · simp [e] at h
          obtain ⟨rfl, rfl⟩ := h
          exact ⟨fun i hi => by simp at hi, rfl, e⟩
      · rcases hO.1 i with h | ⟨h16, hB1, hk⟩
        · rw [h] at hm; simp [entsR] at hm
        · obtain ⟨h1, h2, h3⟩ := (ih i hk p' x').1 hm
          refine ⟨fun j hj => ?_, by simpa [Tr.get] using h2, h3⟩
          rcases List.mem_cons.1 hj with e | hj
          · omega
          · exact h1 j hj
    · rintro ⟨h1, h2, h3⟩
      cases p with
      | nil =>
        left
        have h2 : v = x := h2
        rw [if_neg (by rw [h2]; exact h3)]
        simp [h2]
      | cons i r =>
        right
        have hi := h1.head
        obtain ⟨j, rfl⟩ := Int.eq_ofNat_of_zero_le hi.1
        have h2 : Tr.get (k j) r = x := h2
        rcases hO.1 j with h | ⟨h16, hB1, hk⟩
        · rw [h] at h2; exact absurd h2.symm h3
        · exact ⟨j, h16, (r, x), (ih j hk r x).2 ⟨h1.tail, h2, h3⟩, rfl, rfl⟩
/-- Two lists in order with the same members are one. -/
theorem srtP_uniq : ∀ A B : PList, SrtP A → SrtP B → (∀ x, x ∈ A ↔ x ∈ B) → A = B
  | [], [], _, _, _ => rfl
  | [], b :: B, _, _, h => by have := (h b).2 (by simp); simp at this
  | a :: A, [], _, _, h => by have := (h a).1 (by simp); simp at this
  | a :: A, b :: B, hA, hB, h => by
    obtain ⟨ha, hA'⟩ := List.pairwise_cons.1 hA
    obtain ⟨hb, hB'⟩ := List.pairwise_cons.1 hB
    have e : a = b := by
      rcases List.mem_cons.1 ((h a).1 (by simp)) with q | q
      · exact q
      · rcases List.mem_cons.1 ((h b).2 (by simp)) with p | p
        · exact p.symm
        · have := less_trans _ _ _ (ha _ p) (hb _ q)
          rw [less_irr] at this; cases this
    subst e
    congr 1
    refine srtP_uniq A B hA' hB' fun x => ⟨fun hx => ?_, fun hx => ?_⟩
    · rcases List.mem_cons.1 ((h x).1 (List.mem_cons_of_mem _ hx)) with q | q
      · subst q
        have := ha _ hx
        rw [less_irr] at this; cases this
      · exact q
    · rcases List.mem_cons.1 ((h x).2 (List.mem_cons_of_mem _ hx)) with q | q
      · subst q
        have := hb _ hx
        rw [less_irr] at this; cases this
      · exact q
def Byk (k : List Int) : Prop := ∀ y ∈ k, 0 ≤ y ∧ y < 256
/-- Where a key stands, or would. -/
def atN (k : List Int) : PList → Nat
  | [] => 0
  | e :: r => if lessP e.1 k then atN k r + 1 else 0
theorem atN_le (k : List Int) : ∀ l : PList, atN k l ≤ l.length
  | [] => Nat.le_refl _
  | e :: r => by have := atN_le k r; simp only [atN]; split <;> simp <;> omega
def isAt (k : List Int) (l : PList) : Bool := match l[atN k l]? with
  | some e => decide (e.1 = k)
  | none => false
def putR (k x : List Int) : PList → PList
  | [] => [(k, x)]
  | e :: r => if lessP e.1 k then e :: putR k x r else if e.1 = k then (k, x) :: r else (k, x) :: e :: r
def delR (k : List Int) : PList → PList
  | [] => []
  | e :: r => if lessP e.1 k then e :: delR k r else if e.1 = k then r else e :: r
theorem isAt_cons (k : List Int) (e : List Int × List Int) (r : PList) : isAt k (e :: r) = if lessP e.1 k then isAt k r else decide (e.1 = k) := by
  unfold isAt
  simp only [atN]
  by_cases h : lessP e.1 k = true
  · simp [h]
  · simp [h]
theorem isAt_iff (k : List Int) : ∀ l : PList, SrtP l → (isAt k l = true ↔ ∃ x, (k, x) ∈ l)
  | [], _ => by simp [isAt]
  | e :: r, h => by
    obtain ⟨h1, h2⟩ := List.pairwise_cons.1 h
    rw [isAt_cons]
    by_cases hl : lessP e.1 k = true
    · rw [if_pos hl, isAt_iff k r h2]
      constructor
      · rintro ⟨x, hx⟩; exact ⟨x, List.mem_cons_of_mem _ hx⟩
      · rintro ⟨x, hx⟩
        rcases List.mem_cons.1 hx with q | q
        · rw [← q] at hl; simp [less_irr] at hl
        · exact ⟨x, q⟩
    · rw [if_neg hl]
      constructor
      · intro hd
        have := of_decide_eq_true hd
        exact ⟨e.2, by rw [← this]; simp⟩
      · rintro ⟨x, hx⟩
        rcases List.mem_cons.1 hx with q | q
        · exact decide_eq_true (by rw [← q])
        · exact absurd (h1 _ q) hl
theorem mem_putR (k x : List Int) : ∀ l : PList, SrtP l → ∀ k' x', (k', x') ∈ putR k x l ↔ (k' = k ∧ x' = x) ∨ (k' ≠ k ∧ (k', x') ∈ l)
  | [], _, k', x' => by simp [putR]
  | e :: r, h, k', x' => by
    obtain ⟨h1, h2⟩ := List.pairwise_cons.1 h
    have ih := mem_putR k x r h2 k' x'
    simp only [putR]
    by_cases hl : lessP e.1 k = true
    · rw [if_pos hl, List.mem_cons, ih, List.mem_cons]
      have hne : e.1 ≠ k := fun e1 => by rw [e1, less_irr] at hl; cases hl
      constructor
      · rintro (q | q | q)
        · exact .inr ⟨by rw [← q] at hne; exact hne, .inl q⟩
        · exact .inl q
        · exact .inr ⟨q.1, .inr q.2⟩
      · rintro (q | ⟨q1, q2 | q2⟩)
        · exact .inr (.inl q)
        · exact .inl q2
        · exact .inr (.inr ⟨q1, q2⟩)
    · rw [if_neg hl]
      by_cases e1 : e.1 = k
      · rw [if_pos e1, List.mem_cons, List.mem_cons, Prod.mk.injEq]
        constructor
        · rintro (q | q)
          · exact .inl q
          · refine .inr ⟨fun e2 => ?_, .inr q⟩
            have := h1 _ q
            rw [e1, e2, less_irr] at this; cases this
        · rintro (q | ⟨q1, q2 | q2⟩)
          · exact .inl q
          · exact absurd (by rw [← e1, ← q2]) q1
          · exact .inr q2
      · rw [if_neg e1, List.mem_cons, List.mem_cons, Prod.mk.injEq]
        constructor
        · rintro (q | q)
          · exact .inl q
          · refine .inr ⟨fun e2 => ?_, q⟩
            have hke := less_tot e.1 k e1 (by simpa using hl)
            rcases q with q | q
            · exact e1 (by rw [← q]; exact e2)
            · have := less_trans _ _ _ hke (h1 _ q)
              rw [e2, less_irr] at this; cases this
        · rintro (q | ⟨q1, q2⟩)
          · exact .inl q
          · exact .inr q2
theorem srt_putR (k x : List Int) : ∀ l : PList, SrtP l → SrtP (putR k x l)
  | [], _ => by simp [putR, SrtP]
  | e :: r, h => by
    obtain ⟨h1, h2⟩ := List.pairwise_cons.1 h
    simp only [putR]
    by_cases hl : lessP e.1 k = true
    · rw [if_pos hl]
      refine List.pairwise_cons.2 ⟨fun f hf => ?_, srt_putR k x r h2⟩
      obtain ⟨f1, f2⟩ := f
      rcases (mem_putR k x r h2 f1 f2).1 hf with q | q
      · rw [q.1]; exact hl
      · exact h1 _ q.2
    · rw [if_neg hl]
      by_cases e1 : e.1 = k
      · rw [if_pos e1]
        exact List.pairwise_cons.2 ⟨fun f hf => by have := h1 f hf; rw [e1] at this; exact this, h2⟩
      · rw [if_neg e1]
        have hke := less_tot e.1 k e1 (by simpa using hl)
        refine List.pairwise_cons.2 ⟨fun f hf => ?_, h⟩
        rcases List.mem_cons.1 hf with q | q
        · rw [q]; exact hke
        · exact less_trans _ _ _ hke (h1 f q)
theorem len_putR (k x : List Int) : ∀ l : PList, (putR k x l).length ≤ l.length + 1
  | [] => by simp [putR]
  | e :: r => by
    have := len_putR k x r
    simp only [putR]
    split
    · simp; omega
    · split <;> simp
end Go.Proofs.YtdkpilgelgjieaaGreat
/- Calls on a trie, told as a list. -/
namespace Go.Proofs.YtdkpilgelgjieaaGreat
open Go.RowKit
open Tr
set_option linter.unusedVariables false
set_option maxRecDepth 100000
/-- A call that is told: its kind, its key, its value, where they lie. -/
structure Opx where
  z : Int
  ka : Option Addr
  kn : Nat
  kc : Nat
  va : Option Addr
  vn : Nat
  vc : Nat
  k : List Int
  x : List Int
def Opx.cells (y : Opx) : Array Value := #[.int .i64 y.z, .slice y.ka y.kn y.kc, .slice y.va y.vn y.vc]
def An : Nat → Prop := fun _ => True
structure OAt (w : World) (a : Option Addr) (n : Nat) (xs : List Opx) : Prop where
  len : xs.length = n
  row : ∀ j y, xs[j]? = some y → ∃ g off, a = some ⟨g, off, none⟩ ∧ w.rangeAt g (off + j * 3) y.cells.toList
  k : ∀ y ∈ xs, Ag w y.ka y.kn y.kc y.k
  x : ∀ y ∈ xs, Ag w y.va y.vn y.vc y.x
end Go.Proofs.YtdkpilgelgjieaaGreat

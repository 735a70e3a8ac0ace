/- Keys and values as a list in order, and what a tree has to do with it. -/
import Derived.Test.YtalhnnjpjaeakaaGreatG30
import Derived.Test.YtalhnnjpjaeakaaGreatG25
import Derived.Test.YtalhnnjpjaeakaaGreatG19
import Derived.Test.YtalhnnjpjaeakaaGreatG26
import Derived.Maps.AppendAt
import Derived.Laws.AppendOwnNone
import Derived.Test.YtalhnnjpjaeakaaGreatG01
namespace Go.Proofs.YtalhnnjpjaeakaaGreat
open Tr
open Ni (lessP)
set_option linter.unusedVariables false
/-- Nibble paths and values of a tree, in order. -/
def entsR : Tr → PList
  | no => []
  | leaf q x => [(q, x)]
  | ext q c => (entsR c).map fun e => (q ++ e.1, e.2)
  | br k x => (if x = [] then [] else [([], x)]) ++ (List.range 16).flatMap fun i => (entsR (k i)).map fun e => (((i : Nat) : Int) :: e.1, e.2)
theorem flatMap_congr' {α β : Type} (f g : α → List β) : ∀ l : List α, (∀ i ∈ l, f i = g i) → l.flatMap f = l.flatMap g
  | [], _ => rfl
  | a :: l, h => by rw [List.flatMap_cons, List.flatMap_cons, h a (by simp), flatMap_congr' f g l (fun i hi => h i (List.mem_cons_of_mem _ hi))]
theorem entsF_eq : ∀ (t : Tr) (q : List Int), entsF q t = (entsR t).map fun e => ((Ni.keyP (q ++ e.1)).1, e.2) := by
  intro t
  induction t with
  | no => intro q; rfl
  | leaf p x => intro q; rfl
  | ext p c ih => intro q; simp [entsF, entsR, ih, List.append_assoc]
  | br k x ih =>
    intro q
    simp only [entsF, entsR, List.map_append, List.map_flatMap]
    congr 1
    · by_cases h : x = [] <;> simp [h]
    · refine flatMap_congr' _ _ _ (fun i _ => ?_)
      rw [ih i]
      by_cases h : (k i).isNo = true
      · rw [if_pos h]
        cases hk : k i <;> simp_all [isNo, entsR]
      · rw [if_neg h]
        simp [List.map_map, Function.comp, List.append_assoc]
theorem less_app (q a b : List Int) : lessP (q ++ a) (q ++ b) = lessP a b := by
  induction q with
  | nil => rfl
  | cons x q ih => simp [lessP, ih]
def SrtP (l : PList) : Prop := l.Pairwise fun e f => lessP e.1 f.1 = true
theorem pw_flatMap {α : Type} {R : α → α → Prop} (f : Nat → List α) : ∀ n : Nat, (∀ i, i < n → (f i).Pairwise R) → (∀ i j, i < j → j < n → ∀ a ∈ f i, ∀ b ∈ f j, R a b) → ((List.range n).flatMap f).Pairwise R
  | 0, _, _ => by simp
  | n + 1, h1, h2 => by
    rw [List.range_succ, List.flatMap_append, List.pairwise_append]
    refine ⟨pw_flatMap f n (fun i hi => h1 i (by omega)) (fun i j hij hj => h2 i j hij (by omega)), by simpa using h1 n (by omega), ?_⟩
    intro a ha b hb
    obtain ⟨i, hi, hai⟩ := List.mem_flatMap.1 ha
    have hb' : b ∈ f n := by simpa using hb
    exact h2 i n (List.mem_range.1 hi) (by omega) a hai b hb'
theorem srt_ents : ∀ t : Tr, SrtP (entsR t) := by
  intro t
  induction t with
  | no => simp [entsR, SrtP]
  | leaf p x => simp [entsR, SrtP]
  | ext p c ih =>
    simp only [entsR, SrtP, List.pairwise_map] at ih ⊢
    exact ih.imp (fun h => by rw [less_app]; exact h)
  | br k x ih =>
    simp only [entsR, SrtP]
    rw [List.pairwise_append]
    refine ⟨?_, ?_, ?_⟩
    · by_cases h : x = [] <;> simp [h]
    · refine pw_flatMap _ 16 (fun i hi => ?_) (fun i j hij hj a ha b hb => ?_)
      · rw [List.pairwise_map]
        exact (ih i).imp (fun h => by simp [lessP, h])
      · obtain ⟨e, _, rfl⟩ := List.mem_map.1 ha
        obtain ⟨f, _, rfl⟩ := List.mem_map.1 hb
        simp only [lessP]
        rw [if_neg (by omega)]
        exact decide_eq_true (by omega)
    · intro a ha b hb
      obtain ⟨i, _, hbi⟩ := List.mem_flatMap.1 hb
      obtain ⟨f, _, rfl⟩ := List.mem_map.1 hbi
      by_cases h : x = []
      · simp [h] at ha
      · simp [h] at ha
        rw [ha]; rfl
theorem mem_ents : ∀ (t : Tr) {B : Nat}, Tr.Ok B t → ∀ p x, (p, x) ∈ entsR t ↔ (Nb p ∧ Tr.get t p = x ∧ x ≠ []) := by
  intro t
  induction t with
  | no => intro B hO; exact hO.elim
  | leaf q v =>
    intro B hO p x
    simp only [entsR, List.mem_singleton, Prod.mk.injEq, Tr.get]
    constructor
    · rintro ⟨rfl, rfl⟩
      exact ⟨hO.1, if_pos rfl, hO.2.2⟩
    · rintro ⟨h1, h2, h3⟩
      by_cases e : p = q
      · rw [if_pos e] at h2; exact ⟨e, h2.symm⟩
      · rw [if_neg e] at h2; exact absurd h2.symm h3
  | ext q c ih =>
    intro B hO p x
    obtain ⟨o1, o2, o3, o4, o5⟩ := hO
    simp only [entsR, List.mem_map, Prod.mk.injEq, Tr.get]
    constructor
    · rintro ⟨⟨p', x'⟩, hm, rfl, rfl⟩
      obtain ⟨h1, h2, h3⟩ := (ih o5 p' x').1 hm
      exact ⟨o1.app h1, by simp [h2], h3⟩
    · rintro ⟨h1, h2, h3⟩
      by_cases e : p.take q.length = q
      · rw [if_pos e] at h2
        refine ⟨(p.drop q.length, x), (ih o5 _ _).2 ⟨h1.drop _, h2, h3⟩, ?_, rfl⟩
        have := List.take_append_drop q.length p
        rw [e] at this
        exact this
      · rw [if_neg e] at h2; exact absurd h2.symm h3
  | br k v ih =>
    intro B hO p x
    simp only [entsR, List.mem_append, List.mem_flatMap, List.mem_range, List.mem_map, Prod.mk.injEq]
    constructor
    · rintro (h | ⟨i, hi, ⟨p', x'⟩, hm, rfl, rfl⟩)
      · by_cases e : v = []
        · simp [e] at h
        · simp [e] at h
          obtain ⟨rfl, rfl⟩ := h
          exact ⟨fun i hi => by simp at hi, rfl, e⟩
      · rcases hO.1 i with h | ⟨h16, hB1, hk⟩
        · rw [h] at hm; simp [entsR] at hm
        · obtain ⟨h1, h2, h3⟩ := (ih i hk p' x').1 hm
          refine ⟨fun j hj => ?_, by simpa [Tr.get] using h2, h3⟩
          rcases List.mem_cons.1 hj with e | hj
          · omega
          · exact h1 j hj
    · rintro ⟨h1, h2, h3⟩
      cases p with
      | nil =>
        left
        have h2 : v = x := h2
        rw [if_neg (by rw [h2]; exact h3)]
        simp [h2]
      | cons i r =>
        right
        have hi := h1.head
        obtain ⟨j, rfl⟩ := Int.eq_ofNat_of_zero_le hi.1
        have h2 : Tr.get (k j) r = x := h2
        rcases hO.1 j with h | ⟨h16, hB1, hk⟩
        · rw [h] at h2; exact absurd h2.symm h3
        · exact ⟨j, h16, (r, x), (ih j hk r x).2 ⟨h1.tail, h2, h3⟩, rfl, rfl⟩
/-- Two lists in order with the same members are one. -/
theorem srtP_uniq : ∀ A B : PList, SrtP A → SrtP B → (∀ x, x ∈ A ↔ x ∈ B) → A = B
  | [], [], _, _, _ => rfl
  | [], b :: B, _, _, h => by have := (h b).2 (by simp); simp at this
  | a :: A, [], _, _, h => by have := (h a).1 (by simp); simp at this
  | a :: A, b :: B, hA, hB, h => by
    obtain ⟨ha, hA'⟩ := List.pairwise_cons.1 hA
    obtain ⟨hb, hB'⟩ := List.pairwise_cons.1 hB
    have e : a = b := by
      rcases List.mem_cons.1 ((h a).1 (by simp)) with q | q
      · exact q
      · rcases List.mem_cons.1 ((h b).2 (by simp)) with p | p
        · exact p.symm
        · have := less_trans _ _ _ (ha _ p) (hb _ q)
          rw [less_irr] at this; cases this
    subst e
    congr 1
    refine srtP_uniq A B hA' hB' fun x => ⟨fun hx => ?_, fun hx => ?_⟩
    · rcases List.mem_cons.1 ((h x).1 (List.mem_cons_of_mem _ hx)) with q | q
      · subst q
        have := ha _ hx
        rw [less_irr] at this; cases this
      · exact q
    · rcases List.mem_cons.1 ((h x).2 (List.mem_cons_of_mem _ hx)) with q | q
      · subst q
        have := hb _ hx
        rw [less_irr] at this; cases this
      · exact q
def Byk (k : List Int) : Prop := ∀ y ∈ k, 0 ≤ y ∧ y < 256
/-- Where a key stands, or would. -/
def atN (k : List Int) : PList → Nat
  | [] => 0
  | e :: r => if lessP e.1 k then atN k r + 1 else 0
theorem atN_le (k : List Int) : ∀ l : PList, atN k l ≤ l.length
  | [] => Nat.le_refl _
  | e :: r => by have := atN_le k r; simp only [atN]; split <;> simp <;> omega
def isAt (k : List Int) (l : PList) : Bool := match l[atN k l]? with
  | some e => decide (e.1 = k)
  | none => false
def putR (k x : List Int) : PList → PList
  | [] => [(k, x)]
  | e :: r => if lessP e.1 k then e :: putR k x r else if e.1 = k then (k, x) :: r else (k, x) :: e :: r
def delR (k : List Int) : PList → PList
  | [] => []
  | e :: r => if lessP e.1 k then e :: delR k r else if e.1 = k then r else e :: r
theorem isAt_cons (k : List Int) (e : List Int × List Int) (r : PList) : isAt k (e :: r) = if lessP e.1 k then isAt k r else decide (e.1 = k) := by
  unfold isAt
  simp only [atN]
  by_cases h : lessP e.1 k = true
  · simp [h]
  · simp [h]
theorem putR_cut (k x : List Int) : ∀ l : PList, putR k x l = l.take (atN k l) ++ [(k, x)] ++ l.drop (if isAt k l then atN k l + 1 else atN k l)
  | [] => by simp [putR, atN, isAt]
  | e :: r => by
    have ih := putR_cut k x r
    rw [isAt_cons]
    simp only [putR, atN]
    by_cases h : lessP e.1 k = true
    · simp only [h, if_true]
      rw [ih]
      cases isAt k r <;> simp
    · simp only [h, Bool.false_eq_true, if_false]
      by_cases e1 : e.1 = k
      · simp [e1]
      · simp [e1]
theorem isAt_iff (k : List Int) : ∀ l : PList, SrtP l → (isAt k l = true ↔ ∃ x, (k, x) ∈ l)
  | [], _ => by simp [isAt]
  | e :: r, h => by
    obtain ⟨h1, h2⟩ := List.pairwise_cons.1 h
    rw [isAt_cons]
    by_cases hl : lessP e.1 k = true
    · rw [if_pos hl, isAt_iff k r h2]
      constructor
      · rintro ⟨x, hx⟩; exact ⟨x, List.mem_cons_of_mem _ hx⟩
      · rintro ⟨x, hx⟩
        rcases List.mem_cons.1 hx with q | q
        · rw [← q] at hl; simp [less_irr] at hl
        · exact ⟨x, q⟩
    · rw [if_neg hl]
      constructor
      · intro hd
        have := of_decide_eq_true hd
        exact ⟨e.2, by rw [← this]; simp⟩
      · rintro ⟨x, hx⟩
        rcases List.mem_cons.1 hx with q | q
        · exact decide_eq_true (by rw [← q])
        · exact absurd (h1 _ q) hl
theorem mem_putR (k x : List Int) : ∀ l : PList, SrtP l → ∀ k' x', (k', x') ∈ putR k x l ↔ (k' = k ∧ x' = x) ∨ (k' ≠ k ∧ (k', x') ∈ l)
  | [], _, k', x' => by simp [putR]
  | e :: r, h, k', x' => by
    obtain ⟨h1, h2⟩ := List.pairwise_cons.1 h
    have ih := mem_putR k x r h2 k' x'
    simp only [putR]
    by_cases hl : lessP e.1 k = true
    · rw [if_pos hl, List.mem_cons, ih, List.mem_cons]
      have hne : e.1 ≠ k := fun e1 => by rw [e1, less_irr] at hl; cases hl
      constructor
      · rintro (q | q | q)
        · exact .inr ⟨by rw [← q] at hne; exact hne, .inl q⟩
        · exact .inl q
        · exact .inr ⟨q.1, .inr q.2⟩
      · rintro (q | ⟨q1, q2 | q2⟩)
        · exact .inr (.inl q)
        · exact .inl q2
        · exact .inr (.inr ⟨q1, q2⟩)
    · rw [if_neg hl]
      by_cases e1 : e.1 = k
      · rw [if_pos e1, List.mem_cons, List.mem_cons, Prod.mk.injEq]
        constructor
        · rintro (q | q)
          · exact .inl q
          · refine .inr ⟨fun e2 => ?_, .inr q⟩
            have := h1 _ q
            rw [e1, e2, less_irr] at this; cases this
        · rintro (q | ⟨q1, q2 | q2⟩)
          · exact .inl q
          · exact absurd (by rw [← e1, ← q2]) q1
          · exact .inr q2
      · rw [if_neg e1, List.mem_cons, List.mem_cons, Prod.mk.injEq]
        constructor
        · rintro (q | q)
          · exact .inl q
          · refine .inr ⟨fun e2 => ?_, q⟩
            have hke := less_tot e.1 k e1 (by simpa using hl)
            rcases q with q | q
            · exact e1 (by rw [← q]; exact e2)
            · have := less_trans _ _ _ hke (h1 _ q)
              rw [e2, less_irr] at this; cases this
        · rintro (q | ⟨q1, q2⟩)
          · exact .inl q
          · exact .inr q2
theorem srt_putR (k x : List Int) : ∀ l : PList, SrtP l → SrtP (putR k x l)
  | [], _ => by simp [putR, SrtP]
  | e :: r, h => by
    obtain ⟨h1, h2⟩ := List.pairwise_cons.1 h
    simp only [putR]
    by_cases hl : lessP e.1 k = true
    · rw [if_pos hl]
      refine List.pairwise_cons.2 ⟨fun f hf => ?_, srt_putR k x r h2⟩
      obtain ⟨f1, f2⟩ := f
      rcases (mem_putR k x r h2 f1 f2).1 hf with q | q
      · rw [q.1]; exact hl
      · exact h1 _ q.2
    · rw [if_neg hl]
      by_cases e1 : e.1 = k
      · rw [if_pos e1]
        exact List.pairwise_cons.2 ⟨fun f hf => by have := h1 f hf; rw [e1] at this; exact this, h2⟩
      · rw [if_neg e1]
        have hke := less_tot e.1 k e1 (by simpa using hl)
        refine List.pairwise_cons.2 ⟨fun f hf => ?_, h⟩
        rcases List.mem_cons.1 hf with q | q
        · rw [q]; exact hke
        · exact less_trans _ _ _ hke (h1 f q)
theorem len_putR (k x : List Int) : ∀ l : PList, (putR k x l).length ≤ l.length + 1
  | [] => by simp [putR]
  | e :: r => by
    have := len_putR k x r
    simp only [putR]
    split
    · simp; omega
    · split <;> simp
end Go.Proofs.YtalhnnjpjaeakaaGreat
/- A tree and a list in order that say the same; two ways to one tree. -/
namespace Go.Proofs.YtalhnnjpjaeakaaGreat
open Tr
open Ni (lessP)
set_option linter.unusedVariables false
/-- The tree and the list say the same. -/
structure Rel (t : Tr) (l : PList) : Prop where
  s : SrtP l
  m : ∀ k x, (k, x) ∈ l ↔ (Byk k ∧ k.length ≤ 32 ∧ x ≠ [] ∧ Tr.get t (Ni.nib k) = x)
  e : ∀ p, Nb p → Tr.get t p ≠ [] → ∃ k, Byk k ∧ k.length ≤ 32 ∧ p = Ni.nib k
  v : ∀ k x, (k, x) ∈ l → x.length ≤ 256
  ok : t = no ∨ Tr.Ok 64 t
def putL (l : PList) (k x : List Int) : PList := if k.length ≤ 32 ∧ 0 < x.length ∧ x.length ≤ 256 then putR k x l else l
def delL (l : PList) (k : List Int) : PList := if k.length ≤ 32 then delR k l else l
theorem Rel.nil : Rel no [] := ⟨by simp [SrtP], fun k x => ⟨fun h => by simp at h, fun h => absurd h.2.2.2.symm h.2.2.1⟩, fun p _ h => absurd rfl h, (fun k x h => by simp at h), .inl rfl⟩
theorem byk_nb {k : List Int} (h : Byk k) : Nb (Ni.nib k) := nib_nb h
theorem putT_ok {t : Tr} {k x : List Int} (h : t = no ∨ Tr.Ok 64 t) (hk : Byk k) : putT t k x = no ∨ Tr.Ok 64 (putT t k x) := by
  unfold putT
  split
  · rename_i hc
    exact .inr (put_ok t 64 _ _ h (byk_nb hk) (by rw [Ni.nib_len]; omega) (fun e => by rw [e] at hc; simp at hc))
  · exact h
theorem delT_ok {t : Tr} {k : List Int} (h : t = no ∨ Tr.Ok 64 t) (hk : Byk k) : delT t k = no ∨ Tr.Ok 64 (delT t k) := by
  unfold delT
  split
  · rename_i hc
    rcases h with rfl | h
    · exact absurd rfl hc.2
    · exact (del_ok t 64 _ h (byk_nb hk) hc.2).1
  · exact h
theorem putT_get {t : Tr} {k x : List Int} (h : t = no ∨ Tr.Ok 64 t) (hk : Byk k) {q : List Int} (hq : Nb q) : Tr.get (putT t k x) q = if (k.length ≤ 32 ∧ 0 < x.length ∧ x.length ≤ 256) ∧ q = Ni.nib k then x else Tr.get t q := by
  unfold putT
  split
  · rename_i hc
    rw [get_put t 64 _ _ _ h (byk_nb hk) hq]
    by_cases e : q = Ni.nib k
    · rw [if_pos e, if_pos ⟨hc, e⟩]
    · rw [if_neg e, if_neg (fun z => e z.2)]
  · rename_i hc
    rw [if_neg (fun z => hc z.1)]
theorem delT_get {t : Tr} {k : List Int} (h : t = no ∨ Tr.Ok 64 t) (hk : Byk k) {q : List Int} (hq : Nb q) : Tr.get (delT t k) q = if k.length ≤ 32 ∧ q = Ni.nib k then [] else Tr.get t q := by
  unfold delT
  split
  · rename_i hc
    rcases h with rfl | h
    · exact absurd rfl hc.2
    · rw [get_del t 64 _ _ h (byk_nb hk) hq hc.2]
      by_cases e : q = Ni.nib k
      · rw [if_pos e, if_pos ⟨hc.1, e⟩]
      · rw [if_neg e, if_neg (fun z => e z.2)]
  · rename_i hc
    by_cases e : k.length ≤ 32 ∧ q = Ni.nib k
    · rw [if_pos e, e.2]
      by_cases hg : Tr.get t (Ni.nib k) = []
      · exact hg
      · exact absurd ⟨e.1, hg⟩ hc
    · rw [if_neg e]
theorem nib_inj {a b : List Int} (h : Ni.nib a = Ni.nib b) : a = b := by rw [← Ni.kk_nib a, h, Ni.kk_nib]
theorem Rel.put {t : Tr} {l : PList} (h : Rel t l) {k x : List Int} (hk : Byk k) : Rel (putT t k x) (putL l k x) := by
  by_cases hc : k.length ≤ 32 ∧ 0 < x.length ∧ x.length ≤ 256
  · have el : putL l k x = putR k x l := if_pos hc
    have hx : x ≠ [] := fun e => by rw [e] at hc; simp at hc
    rw [el]
    refine ⟨srt_putR k x l h.s, fun k' x' => ?_, fun p hp hg => ?_, fun k' x' hm => ?_, putT_ok h.ok hk⟩
    · rw [mem_putR k x l h.s]
      constructor
      · rintro (⟨rfl, rfl⟩ | ⟨q1, q2⟩)
        · exact ⟨hk, hc.1, hx, by rw [putT_get h.ok hk (byk_nb hk), if_pos ⟨hc, rfl⟩]⟩
        · obtain ⟨h1, h2, h3, h4⟩ := (h.m k' x').1 q2
          exact ⟨h1, h2, h3, by rw [putT_get h.ok hk (byk_nb h1), if_neg (fun z => q1 (nib_inj z.2))]; exact h4⟩
      · rintro ⟨h1, h2, h3, h4⟩
        rw [putT_get h.ok hk (byk_nb h1)] at h4
        by_cases e : k' = k
        · subst e
          rw [if_pos ⟨hc, rfl⟩] at h4
          exact .inl ⟨rfl, h4.symm⟩
        · rw [if_neg (fun z => e (nib_inj z.2))] at h4
          exact .inr ⟨e, (h.m k' x').2 ⟨h1, h2, h3, h4⟩⟩
    · rw [putT_get h.ok hk hp] at hg
      by_cases e : p = Ni.nib k
      · exact ⟨k, hk, hc.1, e⟩
      · rw [if_neg (fun z => e z.2)] at hg
        exact h.e p hp hg
    · rcases (mem_putR k x l h.s k' x').1 hm with q | q
      · rw [q.2]; exact hc.2.2
      · exact h.v k' x' q.2
  · have e1 : putL l k x = l := if_neg hc
    have e2 : putT t k x = t := if_neg hc
    rw [e1, e2]; exact h
theorem Rel.ents {t : Tr} {l : PList} (h : Rel t l) : entsF [] t = l := by
  rcases h.ok with rfl | hO
  · rw [show entsF [] no = [] from rfl]
    cases l with
    | nil => rfl
    | cons e r =>
      obtain ⟨k, x⟩ := e
      obtain ⟨_, _, h3, h4⟩ := (h.m k x).1 (by simp)
      exact absurd h4.symm h3
  · have hkey : ∀ p x, (p, x) ∈ entsR t → ∃ k, Byk k ∧ k.length ≤ 32 ∧ p = Ni.nib k ∧ (Ni.keyP p).1 = k := by
      intro p x hm
      obtain ⟨h1, h2, h3⟩ := (mem_ents t hO p x).1 hm
      obtain ⟨k, k1, k2, k3⟩ := h.e p h1 (by rw [h2]; exact h3)
      exact ⟨k, k1, k2, k3, by rw [k3, Ni.key_nib k1]⟩
    rw [entsF_eq]
    refine srtP_uniq _ _ ?_ h.s (fun y => ?_)
    · unfold SrtP
      rw [List.pairwise_map]
      refine List.Pairwise.imp_of_mem ?_ (srt_ents t)
      rintro ⟨p, x⟩ ⟨p', x'⟩ hm hm' hl
      obtain ⟨k, _, _, k3, k4⟩ := hkey p x hm
      obtain ⟨k', _, _, k3', k4'⟩ := hkey p' x' hm'
      show lessP (Ni.keyP ([] ++ p)).1 (Ni.keyP ([] ++ p')).1 = true
      rw [List.nil_append, List.nil_append, k4, k4', ← Ni.less_nib, ← k3, ← k3']
      exact hl
    · obtain ⟨k, x⟩ := y
      constructor
      · intro hm
        obtain ⟨⟨p, x'⟩, hm', he⟩ := List.mem_map.1 hm
        obtain ⟨k', k1, k2, k3, k4⟩ := hkey p x' hm'
        obtain ⟨h1, h2, h3⟩ := (mem_ents t hO p x').1 hm'
        simp only [List.nil_append, k4, Prod.mk.injEq] at he
        obtain ⟨rfl, rfl⟩ := he
        exact (h.m k' x').2 ⟨k1, k2, h3, by rw [← k3]; exact h2⟩
      · intro hm
        obtain ⟨k1, k2, h3, h4⟩ := (h.m k x).1 hm
        refine List.mem_map.2 ⟨(Ni.nib k, x), (mem_ents t hO _ _).2 ⟨byk_nb k1, h4, h3⟩, ?_⟩
        simp only [List.nil_append, Ni.key_nib k1]
theorem len_putL (l : PList) (k x : List Int) : (putL l k x).length ≤ l.length + 1 := by
  unfold putL
  split
  · exact len_putR k x l
  · omega
/-- What a tree has lies among these keys. -/
def Sup (u : Tr) (A : List Int → Prop) : Prop := ∀ q, Nb q → Tr.get u q ≠ [] → ∃ k, A k ∧ Byk k ∧ k.length ≤ 32 ∧ q = Ni.nib k
theorem Sup.none (A : List Int → Prop) : Sup no A := fun q _ h => absurd rfl h
theorem Sup.put {u : Tr} {A : List Int → Prop} (h : Sup u A) (hu : u = no ∨ Tr.Ok 64 u) {k x : List Int} (hk : Byk k) : Sup (putT u k x) (fun y => y = k ∨ A y) := by
  intro q hq hg
  rw [putT_get hu hk hq] at hg
  by_cases e : (k.length ≤ 32 ∧ 0 < x.length ∧ x.length ≤ 256) ∧ q = Ni.nib k
  · exact ⟨k, .inl rfl, hk, e.1.1, e.2⟩
  · rw [if_neg e] at hg
    obtain ⟨k', h1, h2⟩ := h q hq hg
    exact ⟨k', .inr h1, h2⟩
theorem Sup.del {u : Tr} {A : List Int → Prop} (h : Sup u A) (hu : u = no ∨ Tr.Ok 64 u) {k : List Int} (hk : Byk k) : Sup (delT u k) (fun y => y ≠ k ∧ A y) := by
  intro q hq hg
  rw [delT_get hu hk hq] at hg
  by_cases e : k.length ≤ 32 ∧ q = Ni.nib k
  · rw [if_pos e] at hg; exact absurd rfl hg
  · rw [if_neg e] at hg
    obtain ⟨k', h1, h2, h3, h4⟩ := h q hq hg
    refine ⟨k', ⟨fun e2 => ?_, h1⟩, h2, h3, h4⟩
    subst e2
    exact e ⟨h3, h4⟩
theorem Sup.mono {u : Tr} {A A' : List Int → Prop} (h : Sup u A) (hA : ∀ k, Byk k → k.length ≤ 32 → A k → A' k) : Sup u A' := fun q hq hg => by
  obtain ⟨k, h1, h2, h3, h4⟩ := h q hq hg
  exact ⟨k, hA k h2 h3 h1, h2, h3, h4⟩
/-- A tree that has what a list says, and nothing else, is the list's tree. -/
theorem Rel.one {t u : Tr} {l : PList} (h : Rel t l) (hu : u = no ∨ Tr.Ok 64 u) (hs : Sup u (fun k => ∃ x, (k, x) ∈ l)) (hv : ∀ k x, (k, x) ∈ l → Tr.get u (Ni.nib k) = x) : u = t := by
  have hg : ∀ q, Nb q → Tr.get u q = Tr.get t q := by
    intro q hq
    by_cases e : Tr.get u q = []
    · rw [e]
      by_cases e2 : Tr.get t q = []
      · exact e2.symm
      · obtain ⟨k, k1, k2, k3⟩ := h.e q hq e2
        subst k3
        have := hv k _ ((h.m k _).2 ⟨k1, k2, e2, rfl⟩)
        rw [e] at this; exact this
    · obtain ⟨k, ⟨x, hx⟩, k1, k2, k3⟩ := hs q hq e
      subst k3
      rw [hv k x hx, ((h.m k x).1 hx).2.2.2]
  rcases hu with rfl | hu
  · rcases h.ok with h2 | h2
    · exact h2.symm
    · obtain ⟨q, q1, q2, q3⟩ := h2.some
      rw [← hg q q1] at q3; exact absurd rfl q3
  · rcases h.ok with h2 | h2
    · subst h2
      obtain ⟨q, q1, q2, q3⟩ := hu.some
      rw [hg q q1] at q3; exact absurd rfl q3
    · exact Tr.Ok.uniq hu h2 hg
end Go.Proofs.YtalhnnjpjaeakaaGreat
/- Lists of keys and values in memory. -/
namespace Go.Proofs.YtalhnnjpjaeakaaGreat
open Go.RowKit
open Tr
set_option linter.unusedVariables false
set_option maxRecDepth 100000
def flatP (vs : List (Value × Value)) : List Value := vs.flatMap fun p => [p.1, p.2]
theorem flatP_len : ∀ vs : List (Value × Value), (flatP vs).length = vs.length * 2
  | [] => rfl
  | p :: r => by have := flatP_len r; simp only [flatP, List.flatMap_cons, List.length_append, List.length_cons, List.length_nil] at this ⊢; omega
theorem flatP_app (a b : List (Value × Value)) : flatP (a ++ b) = flatP a ++ flatP b := by simp [flatP]
theorem flatP_drop : ∀ (vs : List (Value × Value)) (m : Nat), flatP (vs.drop m) = (flatP vs).drop (m * 2)
  | [], m => by simp [flatP]
  | p :: r, 0 => by simp
  | p :: r, m + 1 => by
    rw [List.drop_succ_cons, flatP_drop r m, show (m + 1) * 2 = m * 2 + 1 + 1 from by omega]
    simp [flatP]
theorem flatP_take : ∀ (vs : List (Value × Value)) (m : Nat), flatP (vs.take m) = (flatP vs).take (m * 2)
  | [], m => by simp [flatP]
  | p :: r, 0 => by simp [flatP]
  | p :: r, m + 1 => by
    have ih := flatP_take r m
    rw [List.take_succ_cons, show (m + 1) * 2 = m * 2 + 1 + 1 from by omega]
    simp only [flatP, List.flatMap_cons, List.cons_append, List.nil_append, List.take_succ_cons] at ih ⊢
    rw [ih]
theorem flatP_get : ∀ (vs : List (Value × Value)) (j : Nat) (p : Value × Value), vs[j]? = some p → (flatP vs)[j * 2]? = some p.1 ∧ (flatP vs)[j * 2 + 1]? = some p.2
  | [], j, p, h => by simp at h
  | q :: r, 0, p, h => by simp at h; subst h; simp [flatP]
  | q :: r, j + 1, p, h => by
    have := flatP_get r j p (by simpa using h)
    rw [show (j + 1) * 2 = j * 2 + 1 + 1 from by omega]
    simpa [flatP] using this
/-- A pair of slices of bytes. -/
def Gp2 (K : Nat → Prop) (w : World) (p : Value × Value) (e : List Int × List Int) : Prop := ∃ a n c a' n' c', p.1 = .slice a n c ∧ p.2 = .slice a' n' c' ∧ Sk K w a n c e.1 ∧ Sk K w a' n' c' e.2
theorem Gp2.mono {K K' : Nat → Prop} {w : World} {p : Value × Value} {e : List Int × List Int} (h : Gp2 K w p e) (hK : ∀ b, K b → K' b) : Gp2 K' w p e := by
  obtain ⟨a, n, c, a', n', c', h1, h2, h3, h4⟩ := h
  exact ⟨a, n, c, a', n', c', h1, h2, h3.mono hK, h4.mono hK⟩
theorem Gp2.go {K : Nat → Prop} {w w' : World} {p : Value × Value} {e : List Int × List Int} (h : Gp2 K w p e) (hb : Below w.heap.size w w') : Gp2 K w' p e := by
  obtain ⟨a, n, c, a', n', c', h1, h2, h3, h4⟩ := h
  exact ⟨a, n, c, a', n', c', h1, h2, h3.go hb, h4.go hb⟩
/-- A slice of pairs in memory. -/
structure PAt (K : Nat → Prop) (w : World) (a : Option Addr) (n c : Nat) (vs : List (Value × Value)) (l : PList) : Prop where
  vl : vs.length = n
  ll : l.length = n
  nc : n ≤ c
  nil : a = none → n = 0 ∧ c = 0
  row : ∀ j u, (flatP vs)[j]? = some u → ∃ g off, a = some ⟨g, off, none⟩ ∧ w.cell? ⟨g, off + j, none⟩ = some u
  gd : ∀ (j : Nat) (p : Value × Value) (e : List Int × List Int), vs[j]? = some p → l[j]? = some e → Gp2 K w p e
section
variable {K : Nat → Prop} {w w' : World} {a : Option Addr} {n c : Nat} {vs : List (Value × Value)} {l : PList}
theorem PAt.go (h : PAt K w a n c vs l) (hb : Below w.heap.size w w') : PAt K w' a n c vs l := ⟨h.vl, h.ll, h.nc, h.nil, fun j u hj => by
  obtain ⟨g, off, h1, h2⟩ := h.row j u hj
  exact ⟨g, off, h1, (hb.cell (p := ⟨g, off + j, none⟩) (block_lt_of_cell h2)).trans h2⟩, fun j p e h1 h2 => (h.gd j p e h1 h2).go hb⟩
theorem PAt.drew (h : PAt K w a n c vs l) : PAt K w.drew a n c vs l := h.go (Below.refl _ _).drew
theorem PAt.empty (K : Nat → Prop) (w : World) : PAt K w none 0 0 [] [] := ⟨rfl, rfl, Nat.le_refl _, fun _ => ⟨rfl, rfl⟩, (fun j u h => by simp [flatP] at h), fun j p e h => by simp at h⟩
theorem PAt.mono {K' : Nat → Prop} (h : PAt K w a n c vs l) (hK : ∀ b, K b → K' b) : PAt K' w a n c vs l := ⟨h.vl, h.ll, h.nc, h.nil, h.row, fun j p e h1 h2 => (h.gd j p e h1 h2).mono hK⟩
theorem PAt.old (h : PAt K w a n c vs l) : PAt (fun b => b < w.heap.size) w a n c vs l := ⟨h.vl, h.ll, h.nc, h.nil, h.row, fun j p e h1 h2 => by
  obtain ⟨a, n, c, a', n', c', q1, q2, q3, q4⟩ := h.gd j p e h1 h2
  exact ⟨a, n, c, a', n', c', q1, q2, ⟨q3.ag, fun x hx hn => q3.old hx hn⟩, ⟨q4.ag, fun x hx hn => q4.old hx hn⟩⟩⟩
theorem PAt.cutFrom (h : PAt K w a n c vs l) (f : Nat) (hf : f ≤ n) :
    ∃ a' n' c', (∀ (v : World) (ρ : Operand → Value) (o : Oper) (x y : Operand), o.op = .slice 26 x (some y) none none → ρ x = .slice a n c → ρ y = .int .i64 ((f : Nat) : Int) → (execOp ρ o).run Tryz.prog v = .ok (.value (.slice a' n' c')) v) ∧ PAt K w a' n' c' (vs.drop f) (l.drop f) := by
  have hnc := h.nc
  refine ⟨if c = f then a else a.map (·.add (f * 2)), n - f, c - f, ?_, ?_⟩
  · intro v ρ o x y ho hx hy
    unfold execOp
    rw [ho]
    simp [hx, hy, Instr.sliceAt, run_underlying Tryz.underlying26, Instr.slice, Instr.sliceBounds, Instr.sliceBound, asIntOf, hf, Result.andThen]
  · refine ⟨by rw [List.length_drop, h.vl], by rw [List.length_drop, h.ll], by omega, fun e => ?_, fun j u hj => ?_, fun j p e h1 h2 => h.gd (f + j) p e (by rw [← List.getElem?_drop]; exact h1) (by rw [← List.getElem?_drop]; exact h2)⟩
    · have : a = none := by
        by_cases hc : c = f
        · rw [if_pos hc] at e; exact e
        · rw [if_neg hc] at e; simpa using e
      have := h.nil this
      omega
    · rw [flatP_drop, List.getElem?_drop] at hj
      obtain ⟨g, off, h1, h2⟩ := h.row _ _ hj
      have hlt : f * 2 + j < (flatP vs).length := (List.getElem?_eq_some_iff.1 hj).1
      rw [flatP_len, h.vl] at hlt
      refine ⟨g, off + f * 2, ?_, ?_⟩
      · rw [if_neg (by omega), h1, Option.map_some, addr_add]
      · rw [show off + f * 2 + j = off + (f * 2 + j) from by omega]; exact h2
theorem PAt.cutTo (h : PAt K w a n c vs l) (f : Nat) (hf : f ≤ n) :
    ∃ a' n' c', (∀ (v : World) (ρ : Operand → Value) (o : Oper) (x y : Operand), o.op = .slice 26 x none (some y) none → ρ x = .slice a n c → ρ y = .int .i64 ((f : Nat) : Int) → (execOp ρ o).run Tryz.prog v = .ok (.value (.slice a' n' c')) v) ∧ PAt K w a' n' c' (vs.take f) (l.take f) := by
  have hnc := h.nc
  have hfc : f ≤ c := by omega
  refine ⟨if c = 0 then a else a.map (·.add (0 * 2)), f, c, ?_, ?_⟩
  · intro v ρ o x y ho hx hy
    unfold execOp
    rw [ho]
    simp [hx, hy, Instr.sliceAt, run_underlying Tryz.underlying26, Instr.slice, Instr.sliceBounds, Instr.sliceBound, asIntOf, hfc, Result.andThen]
  · have hlv := h.vl
    have hll := h.ll
    refine ⟨by rw [List.length_take]; omega, by rw [List.length_take]; omega, by omega, fun e => ?_, fun j u hj => ?_, fun j p e h1 h2 => ?_⟩
    · have : a = none := by
        by_cases hc : c = 0
        · rw [if_pos hc] at e; exact e
        · rw [if_neg hc] at e; simpa using e
      have := h.nil this
      omega
    · rw [flatP_take] at hj
      have hlt : j < ((flatP vs).take (f * 2)).length := (List.getElem?_eq_some_iff.1 hj).1
      rw [List.length_take, flatP_len, h.vl] at hlt
      rw [List.getElem?_take_of_lt (by omega)] at hj
      obtain ⟨g, off, h1, h2⟩ := h.row _ _ hj
      exact ⟨g, off, by rw [if_neg (by omega), h1, Option.map_some, addr_add]; rfl, h2⟩
    · have hj1 : j < (vs.take f).length := (List.getElem?_eq_some_iff.1 h1).1
      rw [List.length_take] at hj1
      exact h.gd j p e (by rw [List.getElem?_take_of_lt (by omega)] at h1; exact h1) (by rw [List.getElem?_take_of_lt (by omega)] at h2; exact h2)
theorem PAt.at (h : PAt K w a n c vs l) {j : Nat} (hj : j < n) : ∃ g off a1 n1 c1 a2 n2 c2 k x, a = some ⟨g, off, none⟩ ∧ l[j]? = some (k, x) ∧ w.cell? ⟨g, off + j * 2, none⟩ = some (.slice a1 n1 c1) ∧ w.cell? ⟨g, off + j * 2 + 1, none⟩ = some (.slice a2 n2 c2) ∧ Sk K w a1 n1 c1 k ∧ Sk K w a2 n2 c2 x := by
  obtain ⟨p, hp⟩ : ∃ p, vs[j]? = some p := ⟨_, List.getElem?_eq_getElem (by rw [h.vl]; exact hj)⟩
  obtain ⟨e, he⟩ : ∃ e, l[j]? = some e := ⟨_, List.getElem?_eq_getElem (by rw [h.ll]; exact hj)⟩
  obtain ⟨a1, n1, c1, a2, n2, c2, h1, h2, h3, h4⟩ := h.gd j p e hp he
  obtain ⟨f1, f2⟩ := flatP_get vs j p hp
  obtain ⟨g, off, e1, e2⟩ := h.row _ _ f1
  obtain ⟨g', off', e1', e2'⟩ := h.row _ _ f2
  rw [e1] at e1'
  cases e1'
  exact ⟨g, off, a1, n1, c1, a2, n2, c2, e.1, e.2, e1, he, by rw [e2, h1], by rw [Nat.add_assoc, e2', h2], h3, h4⟩
end
/-- A list in a row of one's own. -/
def OwnL (w : World) (base : Nat) (v : Value) (l : PList) : Prop := ∃ vs : List (Value × Value), vs.length = l.length ∧ w.ownsRow base 45 2 v l.length (flatP vs) ∧ ∀ (j : Nat) (p : Value × Value) (e : List Int × List Int), vs[j]? = some p → l[j]? = some e → Gp2 (fun b => v.ownBlock ≠ some b) w p e
theorem OwnL.pat {w : World} {base : Nat} {v : Value} {l : PList} (h : OwnL w base v l) : ∃ a c vs, v = .slice a l.length c ∧ PAt An w a l.length c vs l := by
  obtain ⟨vs, h1, ⟨h2, h3⟩, h4⟩ := h
  rcases h3 with ⟨rfl, h5⟩ | ⟨g, cap, cur, rfl, hbg, hg, hc1, hc2, hc3, hc4⟩
  · refine ⟨none, 0, vs, by rw [h5], h1, rfl, by omega, fun _ => ⟨h5, rfl⟩, fun j u hj => ?_, fun j p e q1 q2 => (h4 j p e q1 q2).mono (fun _ _ => trivial)⟩
    have : vs = [] := List.eq_nil_of_length_eq_zero (by omega)
    subst this; simp [flatP] at hj
  · refine ⟨some ⟨g, 0, none⟩, cap, vs, rfl, h1, rfl, hc1, (fun e => by cases e), fun j u hj => ⟨g, 0, rfl, ?_⟩, fun j p e q1 q2 => (h4 j p e q1 q2).mono (fun _ _ => trivial)⟩
    rw [cell_of_row _ _ _ _ _ _ hg, Nat.zero_add]
    have hlt : j < (flatP vs).length := (List.getElem?_eq_some_iff.1 hj).1
    rw [flatP_len, h1] at hlt
    rw [← hc4, List.getElem?_take_of_lt (by omega)] at hj
    rw [← Array.getElem?_toList]; exact hj
theorem infoPR : ∃ i, Tryz.prog.info? 45 = some i ∧ i.zero = some (.agg #[.slice none 0 0, .slice none 0 0]) ∧ i.size = 2 ∧ i.bytes = 48 := by
  have h : (Tryz.prog.info? 45).map (fun i => (i.zero, i.size, i.bytes)) = some (some (.agg #[.slice none 0 0, .slice none 0 0]), 2, 48) := by kernel_rfl
  cases hq : Tryz.prog.info? 45 with
  | none => rw [hq] at h; simp at h
  | some i => rw [hq] at h; simp at h; exact ⟨i, rfl, h.1, h.2.1, h.2.2⟩
theorem OwnL.far {w w' : World} {base : Nat} {v : Value} {l : PList} (h : OwnL w base v l) (hb : Below w.heap.size w w') : OwnL w' base v l := by
  obtain ⟨vs, h1, ⟨h2, h3⟩, h4⟩ := h
  refine ⟨vs, h1, ⟨h2, ?_⟩, fun j p e q1 q2 => (h4 j p e q1 q2).go hb⟩
  rcases h3 with q | ⟨g, cap, cur, e1, e2, e3, e4⟩
  · exact .inl q
  · exact .inr ⟨g, cap, cur, e1, e2, (hb.block g (lt_of_get e3)).trans e3, e4⟩
theorem OwnL.own {w : World} {base : Nat} {v : Value} {l : PList} (h : OwnL w base v l) : ∀ k, v.ownBlock = some k → base ≤ k ∧ k < w.heap.size := by
  obtain ⟨vs, h1, ⟨h2, h3⟩, h4⟩ := h
  intro k hk
  rcases h3 with ⟨rfl, _⟩ | ⟨g, cap, cur, rfl, hbg, hg, _⟩
  · cases hk
  · have e : g = k := by simpa [Value.ownBlock] using hk
    subst e
    exact ⟨hbg, lt_of_get hg⟩
/-- An append of such a slice onto a row of one's own. -/
theorem appP {w : World} {base : Nat} {v : Value} {l : PList} (hown : OwnL w base v l) {K : Nat → Prop} {a : Option Addr} {m c : Nat} {vs' : List (Value × Value)} {l' : PList} (h : PAt K w a m c vs' l') (hK : ∀ b, K b → v.ownBlock ≠ some b) (hlen : l.length + m ≤ 2900000000000) (hbase : base ≤ w.heap.size) :
    ∃ v' w', (∀ ty, (Builtin.append_ #[26, 26] ty #[v, .slice a m c]).run Tryz.prog w = .ok v' w') ∧ OwnL w' base v' (l ++ l') ∧ Below base w w' := by
  obtain ⟨i, hi, hz, hsz, hby⟩ := infoPR
  have hOw := hown.own
  obtain ⟨vs, h1, h2, h4⟩ := id hown
  cases a with
  | none =>
    obtain ⟨rfl, rfl⟩ := h.nil rfl
    have hn0 : l' = [] := List.eq_nil_of_length_eq_zero h.ll
    subst hn0
    exact ⟨v, w, fun ty => run_append_owned_none w base 26 ty 45 i 2 Tryz.underlying26 hi v _ _ h2, by rw [List.append_nil]; exact hown, Below.refl _ _⟩
  | some ad =>
    have hc : ∀ j u, (flatP vs')[j]? = some u → w.cell? (ad.add j) = some u := by
      intro j u hj
      obtain ⟨g, off, e1, e2⟩ := h.row j u hj
      cases e1
      rw [addr_add]; exact e2
    have hone : ∀ u ∈ flatP vs', u.oneCell' = true := by
      intro u hu
      obtain ⟨p, hp, hup⟩ := List.mem_flatMap.1 hu
      obtain ⟨j, hj, e⟩ := List.mem_iff_getElem.1 hp
      have hjl : j < l'.length := by rw [h.ll, ← h.vl]; exact hj
      obtain ⟨a1, n1, c1, a2, n2, c2, q1, q2, _, _⟩ := h.gd j p l'[j] (by rw [List.getElem?_eq_getElem hj, e]) (List.getElem?_eq_getElem hjl)
      simp at hup
      rcases hup with q | q
      · rw [q, q1]; rfl
      · rw [q, q2]; rfl
    obtain ⟨v', w', r1, r2, r3, _, r5⟩ := run_append_own_at w base 26 0 45 i _ 2 48 Tryz.underlying26 hi hz hsz hby rfl (by decide) v l.length (flatP vs) h2 ad m c (flatP vs') (by rw [flatP_len, h.vl]) hc hone (by unfold maxLen; omega) (by omega) hbase
    have hkeep : ∀ {K' : Nat → Prop} {p : Value × Value} {e : List Int × List Int}, (∀ b, K' b → v.ownBlock ≠ some b) → Gp2 K' w p e → Gp2 (fun b => v'.ownBlock ≠ some b) w' p e := by
      intro K' p e hK' hg
      obtain ⟨a1, n1, c1, a2, n2, c2, q1, q2, q3, q4⟩ := hg
      have hsk : ∀ {a : Option Addr} {n c : Nat} {bs : List Int}, Sk K' w a n c bs → Sk (fun b => v'.ownBlock ≠ some b) w' a n c bs := by
        intro a n c bs hs
        refine ⟨⟨?_, hs.ag.nil, hs.ag.l, hs.ag.b⟩, fun x hx hn => ?_⟩
        · rcases hs.ag.i with q | ⟨gb, off, q1, q2, q3, q4, q5, q7⟩
          · exact .inl q
          · refine .inr ⟨gb, off, q1, q2, q3, q4, q5, fun j hj => ?_⟩
            rw [← q7 j hj]
            exact World.cell?_of_block (r3.block gb (block_lt_of_cell (q7 j hj)) (fun e => hK' _ (hs.k _ q1 q3) e.symm))
        · rcases r5 with q | q
          · rw [q]; exact hK' _ (hs.k x hx hn)
          · rw [q]; intro e; have := hs.old hx hn; simp at e; omega
      exact ⟨a1, n1, c1, a2, n2, c2, q1, q2, hsk q3, hsk q4⟩
    refine ⟨v', w', fun ty => r1, ⟨vs ++ vs', by simp [h1, h.vl, h.ll], ?_, ?_⟩, ?_⟩
    · rw [List.length_append, h.ll, flatP_app]; exact r2
    · intro j p e q1 q2
      by_cases hj : j < vs.length
      · rw [List.getElem?_append_left hj] at q1
        rw [List.getElem?_append_left (by omega)] at q2
        exact hkeep (fun b hb => hb) (h4 j p e q1 q2)
      · rw [List.getElem?_append_right (by omega)] at q1
        rw [List.getElem?_append_right (by omega), ← h1] at q2
        exact hkeep hK (h.gd _ p e q1 q2)
    · exact (Below.refl _ _).grown r3 hbase (fun k hk => (hOw k hk).1)
/-- A new empty row. -/
theorem OwnL.new {w w' : World} {g base : Nat} (h : New w w' g #[] 45) (hb : base ≤ w.heap.size) : OwnL w' base (.slice (some ⟨g, 0, none⟩) 0 0) [] := ⟨[], rfl, ⟨rfl, .inr ⟨g, 0, #[], rfl, by rw [h.hg]; exact hb, h.row, Nat.le_refl _, by unfold maxLen; omega, rfl, rfl⟩⟩, fun j p e q => by simp at q⟩
/-- One pair in a new block. -/
theorem PAt.one {K : Nat → Prop} {w w' : World} {g : Nat} {a a' : Option Addr} {n c n' c' : Nat} {k x : List Int} (h : New w w' g #[.slice a n c, .slice a' n' c'] 45) (h1 : Sk K w a n c k) (h2 : Sk K w a' n' c' x) : PAt K w' (some ⟨g, 0, none⟩) 1 1 [(.slice a n c, .slice a' n' c')] [(k, x)] := by
  refine ⟨rfl, rfl, Nat.le_refl _, (fun e => by cases e), fun j u hj => ⟨g, 0, rfl, ?_⟩, fun j p e q1 q2 => ?_⟩
  · rw [cell_of_row _ _ _ _ _ _ h.row, Nat.zero_add]
    match j, hj with
    | 0, hj => exact hj
    | 1, hj => exact hj
    | j + 2, hj => simp [flatP] at hj
  · match j, q1, q2 with
    | 0, q1, q2 =>
      simp at q1 q2
      subst q1 q2
      exact ⟨a, n, c, a', n', c', rfl, rfl, h1.go h.below, h2.go h.below⟩
    | j + 1, q1, _ => simp at q1
theorem Tri.noslice {K : Nat → Prop} {w : World} {g : Nat} {t : Tr} (h : Tri K w g t) (o : Nat) (a : Option Addr) (n c : Nat) : w.cell? ⟨g, o, none⟩ ≠ some (.slice a n c) := by
  obtain ⟨⟨v, h1, h2⟩, h3⟩ := h
  rw [cell_of_row _ _ _ _ _ _ h1]
  cases o with
  | zero =>
    intro e
    simp at e
    subst e
    cases t with
    | no => cases h2
    | leaf p x => obtain ⟨_, _, _, _, _, _, e, _⟩ := h2; cases e
    | ext p t => obtain ⟨_, _, _, _, e, _⟩ := h2; cases e
    | br k x => obtain ⟨_, _, _, _, e, _⟩ := h2; cases e
  | succ o => simp
theorem PAt.touch {K K' : Nat → Prop} {w w' : World} {g : Nat} {t : Tr} {a : Option Addr} {n c : Nat} {vs : List (Value × Value)} {l : PList} (h : PAt K w a n c vs l) (ht : Touch g w w') (hT : Tri K' w g t) : PAt K w' a n c vs l := by
  refine ⟨h.vl, h.ll, h.nc, h.nil, fun j u hj => ?_, fun j p e h1 h2 => ?_⟩
  · obtain ⟨g', off, h1, h2⟩ := h.row j u hj
    refine ⟨g', off, h1, ?_⟩
    have hu : ∃ a n c, u = .slice a n c := by
      have hlt : j < (flatP vs).length := (List.getElem?_eq_some_iff.1 hj).1
      have hu : u ∈ flatP vs := List.mem_of_getElem? hj
      obtain ⟨p, hp, hup⟩ := List.mem_flatMap.1 hu
      obtain ⟨i, hi, e⟩ := List.mem_iff_getElem.1 hp
      have hjl : i < l.length := by rw [h.ll, ← h.vl]; exact hi
      obtain ⟨a1, n1, c1, a2, n2, c2, q1, q2, _, _⟩ := h.gd i p l[i] (by rw [List.getElem?_eq_getElem hi, e]) (List.getElem?_eq_getElem hjl)
      simp at hup
      rcases hup with q | q
      · exact ⟨_, _, _, q.trans q1⟩
      · exact ⟨_, _, _, q.trans q2⟩
    obtain ⟨a1, n1, c1, rfl⟩ := hu
    have hne : g' ≠ g := fun e => by subst e; exact hT.noslice _ _ _ _ h2
    rw [← h2]
    exact World.cell?_of_block (ht.block g' (block_lt_of_cell h2) hne)
  · obtain ⟨a1, n1, c1, a2, n2, c2, q1, q2, q3, q4⟩ := h.gd j p e h1 h2
    exact ⟨a1, n1, c1, a2, n2, c2, q1, q2, q3.touch ht hT, q4.touch ht hT⟩
end Go.Proofs.YtalhnnjpjaeakaaGreat
/- The document's lists of keys and values: where a key stands, its value, a list with one more. -/
namespace Go.Proofs.YtalhnnjpjaeakaaGreat
open Go.RowKit
open Tr
open Ni (lessP)
set_option linter.unusedVariables false
set_option maxRecDepth 100000
theorem Sk.byte {K : Nat → Prop} {w : World} {a : Option Addr} {n c : Nat} {p : List Int} (h : Sk K w a n c p) {j : Nat} (hj : j < n) : ∃ g off, a = some ⟨g, off, none⟩ ∧ w.cell? ⟨g, off + j * 1, none⟩ = some (.int .u8 (p.getD j 0)) := by
  rcases h.ag.i with ⟨h1, h2⟩ | ⟨gb, off, h1, h2, h3, h4, h5, h7⟩
  · omega
  · exact ⟨gb, off, h1, by rw [Nat.mul_one]; exact h7 j (by have := h.len; omega)⟩
theorem drop_cons {p : List Int} {j : Nat} (hj : j < p.length) : p.drop j = p.getD j 0 :: p.drop (j + 1) := by
  rw [List.drop_eq_getElem_cons hj]; simp [List.getD, hj]
theorem less_step {p q : List Int} {j : Nat} (h1 : j < p.length) (h2 : j < q.length) : lessP (p.drop j) (q.drop j) = if p.getD j 0 = q.getD j 0 then lessP (p.drop (j + 1)) (q.drop (j + 1)) else decide (p.getD j 0 < q.getD j 0) := by
  rw [drop_cons h1, drop_cons h2]; rfl
theorem less_end {p q : List Int} {j : Nat} (h : ¬ (j < p.length ∧ j < q.length)) (h1 : j ≤ p.length) (h2 : j ≤ q.length) : lessP (p.drop j) (q.drop j) = decide (p.length < q.length) := by
  by_cases e : j = p.length
  · rw [List.drop_eq_nil_of_le (by omega)]
    by_cases e2 : j < q.length
    · rw [drop_cons e2]
      rw [decide_eq_true (by omega)]; rfl
    · rw [List.drop_eq_nil_of_le (by omega), decide_eq_false (by omega)]; rfl
  · rw [show q.drop j = [] from List.drop_eq_nil_of_le (by omega), decide_eq_false (by omega)]
    cases p.drop j <;> rfl
/-- Two cells. -/
structure Cl2 (w : World) (p p' : Addr) (v v' : Value) : Prop where
  cx : w.cell? p = some v
  cy : w.cell? p' = some v'
theorem Cl2.drew {w : World} {p p' : Addr} {v v' : Value} (h : Cl2 w p p' v v') : Cl2 w.drew p p' v v' := ⟨h.cx, h.cy⟩
theorem Cl2.go {w w' : World} {p p' : Addr} {v v' : Value} (h : Cl2 w p p' v v') (hb : Below w.heap.size w w') : Cl2 w' p p' v v' := ⟨(hb.cell (p := p) (block_lt_of_cell h.cx)).trans h.cx, (hb.cell (p := p') (block_lt_of_cell h.cy)).trans h.cy⟩
theorem atN_drop {k : List Int} {l : PList} {j : Nat} (hj : j < l.length) {e : List Int × List Int} (he : l[j]? = some e) : atN k (l.drop j) = if lessP e.1 k then atN k (l.drop (j + 1)) + 1 else 0 := by
  have : l.drop j = e :: l.drop (j + 1) := by
    rw [List.drop_eq_getElem_cons hj]
    rw [List.getElem?_eq_getElem hj] at he
    simp at he; rw [he]
  rw [this]; rfl
theorem isAt_of {k : List Int} {l : PList} {j : Nat} (h : atN k l = j) {e : List Int × List Int} (he : l[j]? = some e) : isAt k l = decide (e.1 = k) := by
  unfold isAt; rw [h, he]
theorem isAt_end {k : List Int} {l : PList} (h : atN k l = l.length) : isAt k l = false := by
  unfold isAt; rw [h, List.getElem?_eq_none (Nat.le_refl _)]
set_option maxHeartbeats 2000000 in
theorem ahead_any {K K' : Nat → Prop} {w : World} {a a' : Option Addr} {n c n' c' : Nat} {p q : List Int} (hp : Sk K w a n c p) (hq : Sk K' w a' n' c' q) (hn : n ≤ 1000000) :
    Calls Tryz.prog 53 #[.slice a n c, .slice a' n' c'] w fun e w' => ∃ u, e = .returned u ∧ (fun u w' => u = .bool (lessP p q) ∧ Bl w w') u w' := by
  have hB := Bl.refl w
  have lp := hp.len
  have lq := hq.len
  refine cw_enter Tryz.func53 rfl 41 rfl ?_
  show CW _ _ _ _ _ _ _ [(0, .slice a n c), (1, .slice a' n' c')] _
  refine cw_seq ?_
  refine cw_region ?_
  refine rp 4 (.bool false) ?_
  refine rw_nil ?_
  refine nw_then ?_
  refine cw_seq ?_
  refine cw_seq ?_
  refine cw_region ?_
  refine rp 5 (.int .i64 0) ?_
  refine rw_nil ?_
  refine nw_then ?_
  refine cw_block ?_
  refine cw_loop (X := Nat) (fun j => [(5, .int .i64 ((j : Nat) : Int)), (0, .slice a n c), (1, .slice a' n' c')]) (fun j v => Bl w v ∧ j ≤ n ∧ j ≤ n' ∧ lessP (p.drop j) (q.drop j) = lessP p q) (fun j => n - j) 0 (by exact ⟨fun _ => by kernel_rfl, ⟨fun _ => by kernel_rfl, ⟨fun _ => by kernel_rfl, trivial⟩⟩⟩) ⟨hB, Nat.zero_le _, Nat.zero_le _, by simp⟩ ?_
  clear hB
  rintro j v ⟨hB, hj1, hj2, hL⟩
  by_cases hlt : j < n ∧ j < n'
  · skip
    obtain ⟨g1, o1, e1, hc1⟩ := (hp.go hB).byte hlt.1
    obtain ⟨g2, o2, e2, hc2⟩ := (hq.go hB).byte hlt.2
    subst e1
    subst e2
    have hst := less_step (p := p) (q := q) (j := j) (by omega) (by omega)
    obtain ⟨x, ex⟩ : ∃ x, p.getD j 0 = x := ⟨_, rfl⟩
    obtain ⟨y, ey⟩ : ∃ y, q.getD j 0 = y := ⟨_, rfl⟩
    rw [ex, ey, hL] at hst
    rw [ex] at hc1
    rw [ey] at hc2
    have hS : Cl2 v ⟨g1, o1 + j * 1, none⟩ ⟨g2, o2 + j * 1, none⟩ (.int .u8 x) (.int .u8 y) := ⟨hc1, hc2⟩
    refine cw_seq ?_
    refine cw_seq ?_
    refine cw_region ?_
    refine rp 6 (.int .i64 ((j : Nat) : Int)) ?_
    refine rp 7 (.slice (some ⟨g1, o1, none⟩) n c) ?_
    refine rp 8 (.int .i64 n) ?_
    refine rv 9 (.bool true) (fun _ => ol_conv (v := .bool (decide (((j : Nat) : Int) < (n : Int)))) (by kernel_rfl) (congrArg Value.bool (decide_eq_true (by omega)))) ?_
    refine rp 10 (.bool true) ?_
    refine rp 11 (.int .i64 ((j : Nat) : Int)) ?_
    refine rp 12 (.slice (some ⟨g2, o2, none⟩) n' c') ?_
    refine rp 13 (.int .i64 n') ?_
    refine rv 14 (.bool true) (fun _ => ol_conv (v := .bool (decide (((j : Nat) : Int) < (n' : Int)))) (by kernel_rfl) (congrArg Value.bool (decide_eq_true (by omega)))) ?_
    refine rp 15 (.bool true) ?_
    refine rw_nil ?_
    refine nw_then ?_
    refine cw_cond_t (fun _ => by kernel_rfl) ?_
    refine cw_skip ?_
    refine nw_then ?_
    refine cw_seq ?_
    refine cw_block ?_
    refine cw_seq ?_
    refine cw_draw (fun v => Cl2 v ⟨g1, o1 + j * 1, none⟩ ⟨g2, o2 + j * 1, none⟩ (.int .u8 x) (.int .u8 y)) (by kernel_rfl) (hS.drew) ?_
    replace hB := hB.drew
    replace hS := hS.drew
    refine dt 0 18 (.slice (some ⟨g1, o1, none⟩) n c) (fun v hv _ => by kernel_rfl) hS ?_
    refine dt 1 19 (.int .i64 ((j : Nat) : Int)) (fun v hv _ => by kernel_rfl) hS ?_
    refine dt 2 20 (.pointer (some ⟨g1, o1 + j * 1, none⟩)) (fun v hv _ => ol_index 27 _ _ g1 o1 j n c 1 5 rfl (by kernel_rfl) (by kernel_rfl) hlt.1 Tryz.underlying27 (by kernel_rfl)) hS ?_
    refine dt 3 21 (.int .u8 x) (fun v hv _ => ol_cell 5 _ _ _ _ rfl (by kernel_rfl) hv.cx Tryz.underlying5 rfl) hS ?_
    refine dt 4 22 (.slice (some ⟨g2, o2, none⟩) n' c') (fun v hv _ => by kernel_rfl) hS ?_
    refine dt 5 23 (.int .i64 ((j : Nat) : Int)) (fun v hv _ => by kernel_rfl) hS ?_
    refine dt 6 24 (.pointer (some ⟨g2, o2 + j * 1, none⟩)) (fun v hv _ => ol_index 27 _ _ g2 o2 j n' c' 1 5 rfl (by kernel_rfl) (by kernel_rfl) hlt.2 Tryz.underlying27 (by kernel_rfl)) hS ?_
    refine dt 7 25 (.int .u8 y) (fun v hv _ => ol_cell 5 _ _ _ _ rfl (by kernel_rfl) hv.cy Tryz.underlying5 rfl) hS ?_
    refine dt 8 26 (.bool (!((x : Int) == (y : Int)))) (fun v hv _ => by kernel_rfl) hS ?_
    refine dw_done (by kernel_rfl) ?_
    refine nw_then ?_
    by_cases hxy : x = y
    · skip
      rw [show (!((x : Int) == (y : Int))) = false from by simp [hxy]]
      refine cw_cond_f (fun _ => by kernel_rfl) ?_
      refine cw_skip ?_
      refine nw_block ?_
      refine nw_then ?_
      refine cw_region ?_
      refine rp 16 (.int .i64 ((j : Nat) : Int)) ?_
      refine rv 17 (.int .i64 (((j : Nat) : Int) + 1)) (fun _ => ol_conv (v := .int .i64 (IntKind.i64.wrap (((j : Nat) : Int) + 1))) (by kernel_rfl) (congrArg (Value.int .i64) (wrap64 (by omega) (by omega)))) ?_
      refine rp 5 (.int .i64 (((j : Nat) : Int) + 1)) ?_
      refine rw_nil ?_
      exact nw_round (E := fun j => [(5, .int .i64 ((j : Nat) : Int)), (0, .slice (some ⟨g1, o1, none⟩) n c), (1, .slice (some ⟨g2, o2, none⟩) n' c')]) (R := fun j v => Bl w v ∧ j ≤ n ∧ j ≤ n' ∧ lessP (p.drop j) (q.drop j) = lessP p q) (μ := fun j => n - j) (x := j) (j + 1) (by exact ⟨fun _ => by kernel_rfl, ⟨fun _ => by kernel_rfl, ⟨fun _ => by kernel_rfl, trivial⟩⟩⟩) ⟨hB, by omega, by omega, by rw [hst, if_pos hxy]⟩ (by show n - (j + 1) < n - j; omega)
    · skip
      rw [show (!((x : Int) == (y : Int))) = true from by simp [hxy]]
      refine cw_cond_t (fun _ => by kernel_rfl) ?_
      refine cw_seq ?_
      refine cw_draw (fun v => Cl2 v ⟨g1, o1 + j * 1, none⟩ ⟨g2, o2 + j * 1, none⟩ (.int .u8 x) (.int .u8 y)) (by kernel_rfl) (hS.drew) ?_
      replace hB := hB.drew
      replace hS := hS.drew
      refine dt 0 27 (.slice (some ⟨g1, o1, none⟩) n c) (fun v hv _ => by kernel_rfl) hS ?_
      refine dt 1 28 (.int .i64 ((j : Nat) : Int)) (fun v hv _ => by kernel_rfl) hS ?_
      refine dt 2 29 (.pointer (some ⟨g1, o1 + j * 1, none⟩)) (fun v hv _ => ol_index 27 _ _ g1 o1 j n c 1 5 rfl (by kernel_rfl) (by kernel_rfl) hlt.1 Tryz.underlying27 (by kernel_rfl)) hS ?_
      refine dt 3 30 (.int .u8 x) (fun v hv _ => ol_cell 5 _ _ _ _ rfl (by kernel_rfl) hv.cx Tryz.underlying5 rfl) hS ?_
      refine dt 4 31 (.slice (some ⟨g2, o2, none⟩) n' c') (fun v hv _ => by kernel_rfl) hS ?_
      refine dt 5 32 (.int .i64 ((j : Nat) : Int)) (fun v hv _ => by kernel_rfl) hS ?_
      refine dt 6 33 (.pointer (some ⟨g2, o2 + j * 1, none⟩)) (fun v hv _ => ol_index 27 _ _ g2 o2 j n' c' 1 5 rfl (by kernel_rfl) (by kernel_rfl) hlt.2 Tryz.underlying27 (by kernel_rfl)) hS ?_
      refine dt 7 34 (.int .u8 y) (fun v hv _ => ol_cell 5 _ _ _ _ rfl (by kernel_rfl) hv.cy Tryz.underlying5 rfl) hS ?_
      refine dt 8 35 (.bool (decide ((x : Int) < (y : Int)))) (fun v hv _ => by kernel_rfl) hS ?_
      refine dt 9 4 (.bool (decide ((x : Int) < (y : Int)))) (fun v hv _ => by kernel_rfl) hS ?_
      refine dw_done (by kernel_rfl) ?_
      refine nw_then ?_
      refine cw_ret ?_
      refine nw_ret_block ?_
      refine nw_ret_then ?_
      refine nw_ret_then ?_
      refine nw_ret_block ?_
      refine nw_ret_then ?_
      exact nw_ret_body (.bool (decide ((x : Int) < (y : Int)))) (fun _ => by kernel_rfl) ⟨_, rfl, by rw [hst, if_neg hxy], hB⟩
  have hen := less_end (p := p) (q := q) (j := j) (by omega) (by omega) (by omega)
  rw [lp, lq] at hen
  by_cases hl1 : j < n
  · skip
    refine cw_seq ?_
    refine cw_seq ?_
    refine cw_region ?_
    refine rp 6 (.int .i64 ((j : Nat) : Int)) ?_
    refine rp 7 (.slice a n c) ?_
    refine rp 8 (.int .i64 n) ?_
    refine rv 9 (.bool true) (fun _ => ol_conv (v := .bool (decide (((j : Nat) : Int) < (n : Int)))) (by kernel_rfl) (congrArg Value.bool (decide_eq_true (by omega)))) ?_
    refine rp 10 (.bool true) ?_
    refine rp 11 (.int .i64 ((j : Nat) : Int)) ?_
    refine rp 12 (.slice a' n' c') ?_
    refine rp 13 (.int .i64 n') ?_
    refine rv 14 (.bool false) (fun _ => ol_conv (v := .bool (decide (((j : Nat) : Int) < (n' : Int)))) (by kernel_rfl) (congrArg Value.bool (decide_eq_false (by omega)))) ?_
    refine rp 15 (.bool false) ?_
    refine rw_nil ?_
    refine nw_then ?_
    refine cw_cond_f (fun _ => by kernel_rfl) ?_
    refine cw_exit ?_
    refine nw_exit_then ?_
    refine nw_exit_then ?_
    refine nw_exit_here ?_
    refine nw_then ?_
    refine cw_seq ?_
    refine cw_region ?_
    refine rp 36 (.slice a n c) ?_
    refine rp 37 (.int .i64 n) ?_
    refine rp 38 (.slice a' n' c') ?_
    refine rp 39 (.int .i64 n') ?_
    refine rp 40 (.bool (decide ((n : Int) < (n' : Int)))) ?_
    refine rp 4 (.bool (decide ((n : Int) < (n' : Int)))) ?_
    refine rw_nil ?_
    refine nw_then ?_
    refine cw_ret ?_
    exact nw_ret_body (.bool (decide ((n : Int) < (n' : Int)))) (fun _ => by kernel_rfl) ⟨_, rfl, by rw [← hL, hen]; congr 1; exact decide_eq_decide.2 (by omega), hB⟩
  · skip
    refine cw_seq ?_
    refine cw_seq ?_
    refine cw_region ?_
    refine rp 6 (.int .i64 ((j : Nat) : Int)) ?_
    refine rp 7 (.slice a n c) ?_
    refine rp 8 (.int .i64 n) ?_
    refine rv 9 (.bool false) (fun _ => ol_conv (v := .bool (decide (((j : Nat) : Int) < (n : Int)))) (by kernel_rfl) (congrArg Value.bool (decide_eq_false (by omega)))) ?_
    refine rp 10 (.bool false) ?_
    refine rw_off 11 (fun _ => by kernel_rfl) ?_
    refine rw_off 12 (fun _ => by kernel_rfl) ?_
    refine rw_off 13 (fun _ => by kernel_rfl) ?_
    refine rw_off 14 (fun _ => by kernel_rfl) ?_
    refine rp 15 (.bool false) ?_
    refine rw_nil ?_
    refine nw_then ?_
    refine cw_cond_f (fun _ => by kernel_rfl) ?_
    refine cw_exit ?_
    refine nw_exit_then ?_
    refine nw_exit_then ?_
    refine nw_exit_here ?_
    refine nw_then ?_
    refine cw_seq ?_
    refine cw_region ?_
    refine rp 36 (.slice a n c) ?_
    refine rp 37 (.int .i64 n) ?_
    refine rp 38 (.slice a' n' c') ?_
    refine rp 39 (.int .i64 n') ?_
    refine rp 40 (.bool (decide ((n : Int) < (n' : Int)))) ?_
    refine rp 4 (.bool (decide ((n : Int) < (n' : Int)))) ?_
    refine rw_nil ?_
    refine nw_then ?_
    refine cw_ret ?_
    exact nw_ret_body (.bool (decide ((n : Int) < (n' : Int)))) (fun _ => by kernel_rfl) ⟨_, rfl, by rw [← hL, hen]; congr 1; exact decide_eq_decide.2 (by omega), hB⟩
set_option maxHeartbeats 2000000 in
theorem at_any {K K' : Nat → Prop} {w : World} {a : Option Addr} {n c : Nat} {vs : List (Value × Value)} {l : PList} (hl : PAt K w a n c vs l) {ak : Option Addr} {nk ck : Nat} {k : List Int} (hk : Sk K' w ak nk ck k) (hb : n ≤ 1000000000000) (hlen : ∀ (j : Nat) k x, l[j]? = some (k, x) → k.length ≤ 1000000) :
    Calls Tryz.prog 37 #[.slice a n c, .slice ak nk ck] w fun e w' => ∃ u, e = .returned u ∧ (fun u w' => u = .tuple #[.int .i64 ((atN k l : Nat) : Int), .bool (isAt k l)] ∧ Bl w w') u w' := by
  have hB := Bl.refl w
  have ll := hl.ll
  refine cw_enter Tryz.func37 rfl 39 rfl ?_
  show CW _ _ _ _ _ _ _ [(0, .slice a n c), (1, .slice ak nk ck)] _
  refine cw_seq ?_
  refine cw_region ?_
  refine rp 4 (.int .i64 0) ?_
  refine rp 5 (.bool false) ?_
  refine rw_nil ?_
  refine nw_then ?_
  refine cw_seq ?_
  refine cw_region ?_
  refine rp 6 (.int .i64 0) ?_
  refine rw_nil ?_
  refine nw_then ?_
  refine cw_seq ?_
  refine cw_block ?_
  refine cw_loop (X := Nat) (fun j => [(6, .int .i64 ((j : Nat) : Int)), (0, .slice a n c), (1, .slice ak nk ck)]) (fun j v => Bl w v ∧ j ≤ n ∧ atN k (l.drop j) + j = atN k l) (fun j => n - j) 0 (by exact ⟨fun _ => by kernel_rfl, ⟨fun _ => by kernel_rfl, ⟨fun _ => by kernel_rfl, trivial⟩⟩⟩) ⟨hB, Nat.zero_le _, by simp⟩ ?_
  clear hB
  rintro j v ⟨hB, hj1, hA⟩
  by_cases hlt : j < n
  · skip
    obtain ⟨g, off, a1, n1, c1, a2, n2, c2, k1, x1, ea, hej, hc1, hc2, hs1, hs2⟩ := (hl.go hB).at hlt
    subst ea
    have hst := atN_drop (k := k) (l := l) (j := j) (by omega) hej
    have hS : Cl2 v ⟨g, off + j * 2, none⟩ ⟨g, off + j * 2 + 1, none⟩ (.slice a1 n1 c1) (.slice a2 n2 c2) := ⟨hc1, hc2⟩
    refine cw_seq ?_
    refine cw_seq ?_
    refine cw_region ?_
    refine rp 8 (.int .i64 ((j : Nat) : Int)) ?_
    refine rp 9 (.slice (some ⟨g, off, none⟩) n c) ?_
    refine rp 10 (.int .i64 n) ?_
    refine rv 11 (.bool true) (fun _ => ol_conv (v := .bool (decide (((j : Nat) : Int) < (n : Int)))) (by kernel_rfl) (congrArg Value.bool (decide_eq_true (by omega)))) ?_
    refine rw_nil ?_
    refine nw_then ?_
    refine cw_cond_t (fun _ => by kernel_rfl) ?_
    refine cw_skip ?_
    refine nw_then ?_
    refine cw_block ?_
    refine cw_seq ?_
    refine cw_region ?_
    refine rp 12 (.slice (some ⟨g, off, none⟩) n c) ?_
    refine rp 13 (.int .i64 ((j : Nat) : Int)) ?_
    refine rv 14 (.pointer (some ⟨g, off + j * 2, none⟩)) (fun _ => ol_index 26 _ _ g off j n c 2 45 rfl (by kernel_rfl) (by kernel_rfl) hlt Tryz.underlying26 (by kernel_rfl)) ?_
    refine rp 15 (.pointer (some ⟨g, off + j * 2, none⟩)) ?_
    refine rv 16 (.slice a1 n1 c1) (fun _ => ol_cell 27 _ _ _ _ rfl (by kernel_rfl) hS.cx Tryz.underlying27 rfl) ?_
    refine rp 17 (.slice ak nk ck) ?_
    refine rw_call 18 53 #[.slice a1 n1 c1, .slice ak nk ck] (fun _ => by kernel_rfl) (fun _ => by kernel_rfl) (R := fun u w' => u = .bool (lessP k1 k) ∧ Bl (v) w') ((ahead_any hs1 (hk.go hB) (by have := hlen j k1 x1 hej; have := hs1.len; omega))) ?_
    rintro _ u1 ⟨rfl, hb2⟩
    replace hB := hB.go hb2
    replace hS := hS.go hb2
    replace hs1 := hs1.go hb2
    refine rp 7 (.bool (lessP k1 k)) ?_
    refine rw_nil ?_
    refine nw_then ?_
    refine cw_seq ?_
    refine cw_seq ?_
    refine cw_region ?_
    refine rp 19 (.bool (lessP k1 k)) ?_
    refine rp 20 (.bool (!(lessP k1 k))) ?_
    refine rw_nil ?_
    refine nw_then ?_
    by_cases hah : lessP k1 k = true
    · skip
      rw [hah]
      show CW _ _ _ _ _ _ _ [(20, .bool false), (19, .bool true), (7, .bool true), (18, .bool true), (17, .slice ak nk ck), (16, .slice a1 n1 c1), (15, .pointer (some ⟨g, off + j * 2, none⟩)), (14, .pointer (some ⟨g, off + j * 2, none⟩)), (13, .int .i64 ((j : Nat) : Int)), (12, .slice (some ⟨g, off, none⟩) n c), (11, .bool true), (10, .int .i64 n), (9, .slice (some ⟨g, off, none⟩) n c), (8, .int .i64 ((j : Nat) : Int)), (6, .int .i64 ((j : Nat) : Int)), (0, .slice (some ⟨g, off, none⟩) n c), (1, .slice ak nk ck)] _
      refine cw_cond_f (fun _ => by kernel_rfl) ?_
      refine cw_skip ?_
      refine nw_then ?_
      refine cw_region ?_
      refine rp 21 (.int .i64 ((j : Nat) : Int)) ?_
      refine rv 22 (.int .i64 (((j : Nat) : Int) + 1)) (fun _ => ol_conv (v := .int .i64 (IntKind.i64.wrap (((j : Nat) : Int) + 1))) (by kernel_rfl) (congrArg (Value.int .i64) (wrap64 (by omega) (by omega)))) ?_
      refine rp 6 (.int .i64 (((j : Nat) : Int) + 1)) ?_
      refine rw_nil ?_
      refine nw_block ?_
      exact nw_round (E := fun j => [(6, .int .i64 ((j : Nat) : Int)), (0, .slice (some ⟨g, off, none⟩) n c), (1, .slice ak nk ck)]) (R := fun j v => Bl w v ∧ j ≤ n ∧ atN k (l.drop j) + j = atN k l) (μ := fun j => n - j) (x := j) (j + 1) (by exact ⟨fun _ => by kernel_rfl, ⟨fun _ => by kernel_rfl, ⟨fun _ => by kernel_rfl, trivial⟩⟩⟩) ⟨hB, by omega, by rw [if_pos hah] at hst; omega⟩ (by show n - (j + 1) < n - j; omega)
    · skip
      replace hah : lessP k1 k = false := by simpa using hah
      have hjn : atN k l = j := by rw [hst, if_neg (by rw [hah]; exact Bool.false_ne_true)] at hA; omega
      rw [hah]
      show CW _ _ _ _ _ _ _ [(20, .bool true), (19, .bool false), (7, .bool false), (18, .bool false), (17, .slice ak nk ck), (16, .slice a1 n1 c1), (15, .pointer (some ⟨g, off + j * 2, none⟩)), (14, .pointer (some ⟨g, off + j * 2, none⟩)), (13, .int .i64 ((j : Nat) : Int)), (12, .slice (some ⟨g, off, none⟩) n c), (11, .bool true), (10, .int .i64 n), (9, .slice (some ⟨g, off, none⟩) n c), (8, .int .i64 ((j : Nat) : Int)), (6, .int .i64 ((j : Nat) : Int)), (0, .slice (some ⟨g, off, none⟩) n c), (1, .slice ak nk ck)] _
      refine cw_cond_t (fun _ => by kernel_rfl) ?_
      refine cw_exit ?_
      refine nw_exit_then ?_
      refine nw_exit_past rfl ?_
      refine nw_exit_then ?_
      refine nw_exit_here ?_
      refine nw_then ?_
      refine cw_seq ?_
      have hZ : Cl2 u1 ⟨g, off + j * 2, none⟩ ⟨g, off + j * 2 + 1, none⟩ (.slice a1 n1 c1) (.slice a2 n2 c2) ∧ Sk K u1 a1 n1 c1 k1 ∧ Sk K' u1 ak nk ck k := ⟨hS, hs1, hk.go hB⟩
      refine cw_draw (fun v => Cl2 v ⟨g, off + j * 2, none⟩ ⟨g, off + j * 2 + 1, none⟩ (.slice a1 n1 c1) (.slice a2 n2 c2) ∧ Sk K v a1 n1 c1 k1 ∧ Sk K' v ak nk ck k) (by kernel_rfl) (⟨hZ.1.drew, hZ.2.1.drew, hZ.2.2.drew⟩) ?_
      replace hB := hB.drew
      refine dt 0 23 (.int .i64 ((j : Nat) : Int)) (fun v hv _ => by kernel_rfl) (show Cl2 u1.drew ⟨g, off + j * 2, none⟩ ⟨g, off + j * 2 + 1, none⟩ (.slice a1 n1 c1) (.slice a2 n2 c2) ∧ Sk K u1.drew a1 n1 c1 k1 ∧ Sk K' u1.drew ak nk ck k from ⟨hZ.1.drew, hZ.2.1.drew, hZ.2.2.drew⟩) ?_
      refine dt 1 24 (.int .i64 ((j : Nat) : Int)) (fun v hv _ => by kernel_rfl) (show Cl2 u1.drew ⟨g, off + j * 2, none⟩ ⟨g, off + j * 2 + 1, none⟩ (.slice a1 n1 c1) (.slice a2 n2 c2) ∧ Sk K u1.drew a1 n1 c1 k1 ∧ Sk K' u1.drew ak nk ck k from ⟨hZ.1.drew, hZ.2.1.drew, hZ.2.2.drew⟩) ?_
      refine dt 2 25 (.slice (some ⟨g, off, none⟩) n c) (fun v hv _ => by kernel_rfl) (show Cl2 u1.drew ⟨g, off + j * 2, none⟩ ⟨g, off + j * 2 + 1, none⟩ (.slice a1 n1 c1) (.slice a2 n2 c2) ∧ Sk K u1.drew a1 n1 c1 k1 ∧ Sk K' u1.drew ak nk ck k from ⟨hZ.1.drew, hZ.2.1.drew, hZ.2.2.drew⟩) ?_
      refine dt 3 26 (.int .i64 n) (fun v hv _ => by kernel_rfl) (show Cl2 u1.drew ⟨g, off + j * 2, none⟩ ⟨g, off + j * 2 + 1, none⟩ (.slice a1 n1 c1) (.slice a2 n2 c2) ∧ Sk K u1.drew a1 n1 c1 k1 ∧ Sk K' u1.drew ak nk ck k from ⟨hZ.1.drew, hZ.2.1.drew, hZ.2.2.drew⟩) ?_
      refine dt 4 27 (.bool true) (fun v hv => (fun _ => ol_conv (v := .bool (decide (((j : Nat) : Int) < (n : Int)))) (by kernel_rfl) (congrArg Value.bool (decide_eq_true (by omega))))) (show Cl2 u1.drew ⟨g, off + j * 2, none⟩ ⟨g, off + j * 2 + 1, none⟩ (.slice a1 n1 c1) (.slice a2 n2 c2) ∧ Sk K u1.drew a1 n1 c1 k1 ∧ Sk K' u1.drew ak nk ck k from ⟨hZ.1.drew, hZ.2.1.drew, hZ.2.2.drew⟩) ?_
      refine dt 5 28 (.bool true) (fun v hv _ => by kernel_rfl) (show Cl2 u1.drew ⟨g, off + j * 2, none⟩ ⟨g, off + j * 2 + 1, none⟩ (.slice a1 n1 c1) (.slice a2 n2 c2) ∧ Sk K u1.drew a1 n1 c1 k1 ∧ Sk K' u1.drew ak nk ck k from ⟨hZ.1.drew, hZ.2.1.drew, hZ.2.2.drew⟩) ?_
      refine dt 6 29 (.slice (some ⟨g, off, none⟩) n c) (fun v hv _ => by kernel_rfl) (show Cl2 u1.drew ⟨g, off + j * 2, none⟩ ⟨g, off + j * 2 + 1, none⟩ (.slice a1 n1 c1) (.slice a2 n2 c2) ∧ Sk K u1.drew a1 n1 c1 k1 ∧ Sk K' u1.drew ak nk ck k from ⟨hZ.1.drew, hZ.2.1.drew, hZ.2.2.drew⟩) ?_
      refine dt 7 30 (.int .i64 ((j : Nat) : Int)) (fun v hv _ => by kernel_rfl) (show Cl2 u1.drew ⟨g, off + j * 2, none⟩ ⟨g, off + j * 2 + 1, none⟩ (.slice a1 n1 c1) (.slice a2 n2 c2) ∧ Sk K u1.drew a1 n1 c1 k1 ∧ Sk K' u1.drew ak nk ck k from ⟨hZ.1.drew, hZ.2.1.drew, hZ.2.2.drew⟩) ?_
      refine dt 8 31 (.pointer (some ⟨g, off + j * 2, none⟩)) (fun v hv _ => ol_index 26 _ _ g off j n c 2 45 rfl (by kernel_rfl) (by kernel_rfl) hlt Tryz.underlying26 (by kernel_rfl)) (show Cl2 u1.drew ⟨g, off + j * 2, none⟩ ⟨g, off + j * 2 + 1, none⟩ (.slice a1 n1 c1) (.slice a2 n2 c2) ∧ Sk K u1.drew a1 n1 c1 k1 ∧ Sk K' u1.drew ak nk ck k from ⟨hZ.1.drew, hZ.2.1.drew, hZ.2.2.drew⟩) ?_
      refine dt 9 32 (.pointer (some ⟨g, off + j * 2, none⟩)) (fun v hv _ => by kernel_rfl) (show Cl2 u1.drew ⟨g, off + j * 2, none⟩ ⟨g, off + j * 2 + 1, none⟩ (.slice a1 n1 c1) (.slice a2 n2 c2) ∧ Sk K u1.drew a1 n1 c1 k1 ∧ Sk K' u1.drew ak nk ck k from ⟨hZ.1.drew, hZ.2.1.drew, hZ.2.2.drew⟩) ?_
      refine dt 10 33 (.slice a1 n1 c1) (fun v hv _ => ol_cell 27 _ _ _ _ rfl (by kernel_rfl) hv.1.cx Tryz.underlying27 rfl) (show Cl2 u1.drew ⟨g, off + j * 2, none⟩ ⟨g, off + j * 2 + 1, none⟩ (.slice a1 n1 c1) (.slice a2 n2 c2) ∧ Sk K u1.drew a1 n1 c1 k1 ∧ Sk K' u1.drew ak nk ck k from ⟨hZ.1.drew, hZ.2.1.drew, hZ.2.2.drew⟩) ?_
      refine dt 11 34 (.string (strOfNums k1)) (fun v hv _ => hv.2.1.run_str _ _ _ rfl (by kernel_rfl)) (show Cl2 u1.drew ⟨g, off + j * 2, none⟩ ⟨g, off + j * 2 + 1, none⟩ (.slice a1 n1 c1) (.slice a2 n2 c2) ∧ Sk K u1.drew a1 n1 c1 k1 ∧ Sk K' u1.drew ak nk ck k from ⟨hZ.1.drew, hZ.2.1.drew, hZ.2.2.drew⟩) ?_
      refine dt 12 35 (.slice ak nk ck) (fun v hv _ => by kernel_rfl) (show Cl2 u1.drew ⟨g, off + j * 2, none⟩ ⟨g, off + j * 2 + 1, none⟩ (.slice a1 n1 c1) (.slice a2 n2 c2) ∧ Sk K u1.drew a1 n1 c1 k1 ∧ Sk K' u1.drew ak nk ck k from ⟨hZ.1.drew, hZ.2.1.drew, hZ.2.2.drew⟩) ?_
      refine dt 13 36 (.string (strOfNums k)) (fun v hv _ => hv.2.2.run_str _ _ _ rfl (by kernel_rfl)) (show Cl2 u1.drew ⟨g, off + j * 2, none⟩ ⟨g, off + j * 2 + 1, none⟩ (.slice a1 n1 c1) (.slice a2 n2 c2) ∧ Sk K u1.drew a1 n1 c1 k1 ∧ Sk K' u1.drew ak nk ck k from ⟨hZ.1.drew, hZ.2.1.drew, hZ.2.2.drew⟩) ?_
      refine dt 14 37 (.bool (decide (k1 = k))) (fun v hv _ => ol_eqs 9 _ _ _ _ _ rfl (by kernel_rfl) (by kernel_rfl) (strs_eq hs1.ag.b hk.ag.b)) (show Cl2 u1.drew ⟨g, off + j * 2, none⟩ ⟨g, off + j * 2 + 1, none⟩ (.slice a1 n1 c1) (.slice a2 n2 c2) ∧ Sk K u1.drew a1 n1 c1 k1 ∧ Sk K' u1.drew ak nk ck k from ⟨hZ.1.drew, hZ.2.1.drew, hZ.2.2.drew⟩) ?_
      refine dt 15 38 (.bool (decide (k1 = k))) (fun v hv _ => by kernel_rfl) (show Cl2 u1.drew ⟨g, off + j * 2, none⟩ ⟨g, off + j * 2 + 1, none⟩ (.slice a1 n1 c1) (.slice a2 n2 c2) ∧ Sk K u1.drew a1 n1 c1 k1 ∧ Sk K' u1.drew ak nk ck k from ⟨hZ.1.drew, hZ.2.1.drew, hZ.2.2.drew⟩) ?_
      refine dt 16 4 (.int .i64 ((j : Nat) : Int)) (fun v hv _ => by kernel_rfl) (show Cl2 u1.drew ⟨g, off + j * 2, none⟩ ⟨g, off + j * 2 + 1, none⟩ (.slice a1 n1 c1) (.slice a2 n2 c2) ∧ Sk K u1.drew a1 n1 c1 k1 ∧ Sk K' u1.drew ak nk ck k from ⟨hZ.1.drew, hZ.2.1.drew, hZ.2.2.drew⟩) ?_
      refine dt 17 5 (.bool (decide (k1 = k))) (fun v hv _ => by kernel_rfl) (show Cl2 u1.drew ⟨g, off + j * 2, none⟩ ⟨g, off + j * 2 + 1, none⟩ (.slice a1 n1 c1) (.slice a2 n2 c2) ∧ Sk K u1.drew a1 n1 c1 k1 ∧ Sk K' u1.drew ak nk ck k from ⟨hZ.1.drew, hZ.2.1.drew, hZ.2.2.drew⟩) ?_
      refine dw_done (by kernel_rfl) ?_
      refine nw_then ?_
      refine cw_ret ?_
      exact nw_ret_body (.tuple #[.int .i64 ((j : Nat) : Int), .bool (decide (k1 = k))]) (fun _ => by kernel_rfl) ⟨_, rfl, by rw [hjn, isAt_of hjn hej], hB⟩
  have hjn : atN k l = l.length := by rw [List.drop_eq_nil_of_le (by omega)] at hA; simp only [atN] at hA; omega
  have hS : True := trivial
  refine cw_seq ?_
  refine cw_seq ?_
  refine cw_region ?_
  refine rp 8 (.int .i64 ((j : Nat) : Int)) ?_
  refine rp 9 (.slice a n c) ?_
  refine rp 10 (.int .i64 n) ?_
  refine rv 11 (.bool false) (fun _ => ol_conv (v := .bool (decide (((j : Nat) : Int) < (n : Int)))) (by kernel_rfl) (congrArg Value.bool (decide_eq_false (by omega)))) ?_
  refine rw_nil ?_
  refine nw_then ?_
  refine cw_cond_f (fun _ => by kernel_rfl) ?_
  refine cw_exit ?_
  refine nw_exit_then ?_
  refine nw_exit_then ?_
  refine nw_exit_here ?_
  refine nw_then ?_
  refine cw_seq ?_
  refine cw_draw (fun _ => True) (by kernel_rfl) (trivial) ?_
  replace hB := hB.drew
  refine dt 0 23 (.int .i64 ((j : Nat) : Int)) (fun v hv _ => by kernel_rfl) trivial ?_
  refine dt 1 24 (.int .i64 ((j : Nat) : Int)) (fun v hv _ => by kernel_rfl) trivial ?_
  refine dt 2 25 (.slice a n c) (fun v hv _ => by kernel_rfl) trivial ?_
  refine dt 3 26 (.int .i64 n) (fun v hv _ => by kernel_rfl) trivial ?_
  refine dt 4 27 (.bool false) (fun v hv => (fun _ => ol_conv (v := .bool (decide (((j : Nat) : Int) < (n : Int)))) (by kernel_rfl) (congrArg Value.bool (decide_eq_false (by omega))))) trivial ?_
  refine dt 5 28 (.bool false) (fun v hv _ => by kernel_rfl) trivial ?_
  refine df 6 29 trivial ?_
  refine df 7 30 trivial ?_
  refine df 8 31 trivial ?_
  refine df 9 32 trivial ?_
  refine df 10 33 trivial ?_
  refine df 11 34 trivial ?_
  refine df 12 35 trivial ?_
  refine df 13 36 trivial ?_
  refine df 14 37 trivial ?_
  refine dt 15 38 (.bool false) (fun v hv _ => by kernel_rfl) trivial ?_
  refine dt 16 4 (.int .i64 ((j : Nat) : Int)) (fun v hv _ => by kernel_rfl) trivial ?_
  refine dt 17 5 (.bool false) (fun v hv _ => by kernel_rfl) trivial ?_
  refine dw_done (by kernel_rfl) ?_
  refine nw_then ?_
  refine cw_ret ?_
  exact nw_ret_body (.tuple #[.int .i64 ((j : Nat) : Int), .bool false]) (fun _ => by kernel_rfl) ⟨_, rfl, by rw [isAt_end hjn, hjn, show j = l.length from by omega], hB⟩
theorem isAt_key {k : List Int} {l : PList} {j : Nat} (h : isAt k l = true) (hj : atN k l = j) {k1 x1 : List Int} (he : l[j]? = some (k1, x1)) : k1 = k := by
  rw [isAt_of hj he] at h; exact of_decide_eq_true h
set_option maxHeartbeats 1000000 in
theorem rget_long {K K' : Nat → Prop} {w : World} {a : Option Addr} {n c : Nat} {vs : List (Value × Value)} {l : PList} (hl : PAt K w a n c vs l) {ak : Option Addr} {nk ck : Nat} {k : List Int} (hk : Sk K' w ak nk ck k) (hb : n ≤ 1000000000000) (hn : 32 < nk) :
    Calls Tryz.prog 17 #[.slice a n c, .slice ak nk ck] w fun e w' => ∃ u, e = .returned u ∧ (fun u w' => u = .tuple #[.slice none 0 0, .bool false, .int .i64 70] ∧ Bl w w') u w' := by
  have hB := Bl.refl w
  have lk := hk.len
  have ll := hl.ll
  refine cw_enter Tryz.func17 rfl 25 rfl ?_
  show CW _ _ _ _ _ _ _ [(0, .slice a n c), (1, .slice ak nk ck)] _
  refine cw_seq ?_
  refine cw_region ?_
  refine rp 4 (.slice none 0 0) ?_
  refine rp 5 (.bool false) ?_
  refine rp 6 (.int .i64 0) ?_
  refine rw_nil ?_
  refine nw_then ?_
  refine cw_seq ?_
  refine cw_seq ?_
  refine cw_region ?_
  refine rp 9 (.slice ak nk ck) ?_
  refine rp 10 (.int .i64 nk) ?_
  refine rv 11 (.bool true) (fun _ => ol_conv (v := .bool (decide ((nk : Int) > (32 : Int)))) (by kernel_rfl) (congrArg Value.bool (decide_eq_true (by omega)))) ?_
  refine rw_nil ?_
  refine nw_then ?_
  refine cw_cond_t (fun _ => by kernel_rfl) ?_
  refine cw_seq ?_
  refine cw_region ?_
  refine rp 4 (.slice none 0 0) ?_
  refine rp 5 (.bool false) ?_
  refine rp 6 (.int .i64 70) ?_
  refine rw_nil ?_
  refine nw_then ?_
  refine cw_ret ?_
  refine nw_ret_then ?_
  exact nw_ret_body (.tuple #[.slice none 0 0, .bool false, .int .i64 70]) (fun _ => by kernel_rfl) ⟨_, rfl, rfl, hB⟩
set_option maxHeartbeats 1000000 in
theorem rget_is {K K' : Nat → Prop} {w : World} {a : Option Addr} {n c : Nat} {vs : List (Value × Value)} {l : PList} (hl : PAt K w a n c vs l) {ak : Option Addr} {nk ck : Nat} {k : List Int} (hk : Sk K' w ak nk ck k) (hb : n ≤ 1000000000000) (hlen : ∀ (j : Nat) k x, l[j]? = some (k, x) → k.length ≤ 1000000) (hn : nk ≤ 32) (hat : isAt k l = true) :
    Calls Tryz.prog 17 #[.slice a n c, .slice ak nk ck] w fun e w' => ∃ u, e = .returned u ∧ (fun u w' => (∃ a2 n2 c2, u = .tuple #[.slice a2 n2 c2, .bool true, .int .i64 0] ∧ ∃ x, l[atN k l]? = some (k, x) ∧ Sk K w' a2 n2 c2 x) ∧ Bl w w') u w' := by
  have hB := Bl.refl w
  have lk := hk.len
  have ll := hl.ll
  refine cw_enter Tryz.func17 rfl 25 rfl ?_
  show CW _ _ _ _ _ _ _ [(0, .slice a n c), (1, .slice ak nk ck)] _
  refine cw_seq ?_
  refine cw_region ?_
  refine rp 4 (.slice none 0 0) ?_
  refine rp 5 (.bool false) ?_
  refine rp 6 (.int .i64 0) ?_
  refine rw_nil ?_
  refine nw_then ?_
  refine cw_seq ?_
  refine cw_seq ?_
  refine cw_region ?_
  refine rp 9 (.slice ak nk ck) ?_
  refine rp 10 (.int .i64 nk) ?_
  refine rv 11 (.bool false) (fun _ => ol_conv (v := .bool (decide ((nk : Int) > (32 : Int)))) (by kernel_rfl) (congrArg Value.bool (decide_eq_false (by omega)))) ?_
  refine rw_nil ?_
  refine nw_then ?_
  refine cw_cond_f (fun _ => by kernel_rfl) ?_
  refine cw_skip ?_
  refine nw_then ?_
  refine cw_seq ?_
  refine cw_region ?_
  refine rp 13 (.slice a n c) ?_
  refine rp 14 (.slice ak nk ck) ?_
  refine rw_call 15 37 #[.slice a n c, .slice ak nk ck] (fun _ => by kernel_rfl) (fun _ => by kernel_rfl) (R := fun u w' => u = .tuple #[.int .i64 ((atN k l : Nat) : Int), .bool (isAt k l)] ∧ Bl (w) w') ((at_any (hl.go hB) (hk.go hB) hb hlen)) ?_
  rintro _ u1 ⟨rfl, hb2⟩
  replace hB := hB.go hb2
  rw [hat]
  refine rp 12 (.tuple #[.int .i64 ((atN k l : Nat) : Int), .bool true]) ?_
  refine rp 16 (.int .i64 ((atN k l : Nat) : Int)) ?_
  refine rp 17 (.bool true) ?_
  refine rp 7 (.int .i64 ((atN k l : Nat) : Int)) ?_
  refine rp 8 (.bool true) ?_
  refine rw_nil ?_
  refine nw_then ?_
  refine cw_seq ?_
  refine cw_seq ?_
  refine cw_region ?_
  refine rp 18 (.bool true) ?_
  refine rp 19 (.bool false) ?_
  refine rw_nil ?_
  refine nw_then ?_
  refine cw_cond_f (fun _ => by kernel_rfl) ?_
  refine cw_skip ?_
  refine nw_then ?_
  refine cw_seq ?_
  have hlt : atN k l < n := by by_cases h : atN k l < n; exact h; have := atN_le k l; rw [isAt_end (by omega)] at hat; cases hat
  obtain ⟨j, ej⟩ : ∃ j, atN k l = j := ⟨_, rfl⟩
  rw [ej] at hlt ⊢
  obtain ⟨g, off, a1, n1, c1, a2, n2, c2, k1, x1, ea, hej, hc1, hc2, hs1, hs2⟩ := (hl.go hB).at hlt
  subst ea
  show CW _ _ _ _ _ _ _ [(19, .bool false), (18, .bool true), (8, .bool true), (7, .int .i64 ((j : Nat) : Int)), (17, .bool true), (16, .int .i64 ((j : Nat) : Int)), (12, .tuple #[.int .i64 ((j : Nat) : Int), .bool true]), (15, .tuple #[.int .i64 ((j : Nat) : Int), .bool true]), (14, .slice ak nk ck), (13, .slice (some ⟨g, off, none⟩) n c), (11, .bool false), (10, .int .i64 nk), (9, .slice ak nk ck), (6, .int .i64 0), (5, .bool false), (4, .slice none 0 0), (0, .slice (some ⟨g, off, none⟩) n c), (1, .slice ak nk ck)] _
  refine cw_region ?_
  refine rp 20 (.slice (some ⟨g, off, none⟩) n c) ?_
  refine rp 21 (.int .i64 ((j : Nat) : Int)) ?_
  refine rv 22 (.pointer (some ⟨g, off + j * 2, none⟩)) (fun _ => ol_index 26 _ _ g off j n c 2 45 rfl (by kernel_rfl) (by kernel_rfl) hlt Tryz.underlying26 (by kernel_rfl)) ?_
  refine rp 23 (.pointer (some ⟨g, off + j * 2 + 1, none⟩)) ?_
  refine rv 24 (.slice a2 n2 c2) (fun _ => ol_cell 27 _ _ _ _ rfl (by kernel_rfl) hc2 Tryz.underlying27 rfl) ?_
  refine rp 4 (.slice a2 n2 c2) ?_
  refine rp 5 (.bool true) ?_
  refine rp 6 (.int .i64 0) ?_
  refine rw_nil ?_
  refine nw_then ?_
  refine cw_ret ?_
  exact nw_ret_body (.tuple #[.slice a2 n2 c2, .bool true, .int .i64 0]) (fun _ => by kernel_rfl) ⟨_, rfl, ⟨a2, n2, c2, rfl, x1, by rw [← isAt_key hat ej hej]; exact hej, hs2⟩, hB⟩
set_option maxHeartbeats 1000000 in
theorem rget_not {K K' : Nat → Prop} {w : World} {a : Option Addr} {n c : Nat} {vs : List (Value × Value)} {l : PList} (hl : PAt K w a n c vs l) {ak : Option Addr} {nk ck : Nat} {k : List Int} (hk : Sk K' w ak nk ck k) (hb : n ≤ 1000000000000) (hlen : ∀ (j : Nat) k x, l[j]? = some (k, x) → k.length ≤ 1000000) (hn : nk ≤ 32) (hat : isAt k l = false) :
    Calls Tryz.prog 17 #[.slice a n c, .slice ak nk ck] w fun e w' => ∃ u, e = .returned u ∧ (fun u w' => u = .tuple #[.slice none 0 0, .bool false, .int .i64 0] ∧ Bl w w') u w' := by
  have hB := Bl.refl w
  have lk := hk.len
  have ll := hl.ll
  refine cw_enter Tryz.func17 rfl 25 rfl ?_
  show CW _ _ _ _ _ _ _ [(0, .slice a n c), (1, .slice ak nk ck)] _
  refine cw_seq ?_
  refine cw_region ?_
  refine rp 4 (.slice none 0 0) ?_
  refine rp 5 (.bool false) ?_
  refine rp 6 (.int .i64 0) ?_
  refine rw_nil ?_
  refine nw_then ?_
  refine cw_seq ?_
  refine cw_seq ?_
  refine cw_region ?_
  refine rp 9 (.slice ak nk ck) ?_
  refine rp 10 (.int .i64 nk) ?_
  refine rv 11 (.bool false) (fun _ => ol_conv (v := .bool (decide ((nk : Int) > (32 : Int)))) (by kernel_rfl) (congrArg Value.bool (decide_eq_false (by omega)))) ?_
  refine rw_nil ?_
  refine nw_then ?_
  refine cw_cond_f (fun _ => by kernel_rfl) ?_
  refine cw_skip ?_
  refine nw_then ?_
  refine cw_seq ?_
  refine cw_region ?_
  refine rp 13 (.slice a n c) ?_
  refine rp 14 (.slice ak nk ck) ?_
  refine rw_call 15 37 #[.slice a n c, .slice ak nk ck] (fun _ => by kernel_rfl) (fun _ => by kernel_rfl) (R := fun u w' => u = .tuple #[.int .i64 ((atN k l : Nat) : Int), .bool (isAt k l)] ∧ Bl (w) w') ((at_any (hl.go hB) (hk.go hB) hb hlen)) ?_
  rintro _ u1 ⟨rfl, hb2⟩
  replace hB := hB.go hb2
  rw [hat]
  refine rp 12 (.tuple #[.int .i64 ((atN k l : Nat) : Int), .bool false]) ?_
  refine rp 16 (.int .i64 ((atN k l : Nat) : Int)) ?_
  refine rp 17 (.bool false) ?_
  refine rp 7 (.int .i64 ((atN k l : Nat) : Int)) ?_
  refine rp 8 (.bool false) ?_
  refine rw_nil ?_
  refine nw_then ?_
  refine cw_seq ?_
  refine cw_seq ?_
  refine cw_region ?_
  refine rp 18 (.bool false) ?_
  refine rp 19 (.bool true) ?_
  refine rw_nil ?_
  refine nw_then ?_
  refine cw_cond_t (fun _ => by kernel_rfl) ?_
  refine cw_seq ?_
  refine cw_region ?_
  refine rp 4 (.slice none 0 0) ?_
  refine rp 5 (.bool false) ?_
  refine rp 6 (.int .i64 0) ?_
  refine rw_nil ?_
  refine nw_then ?_
  refine cw_ret ?_
  refine nw_ret_then ?_
  exact nw_ret_body (.tuple #[.slice none 0 0, .bool false, .int .i64 0]) (fun _ => by kernel_rfl) ⟨_, rfl, rfl, hB⟩
end Go.Proofs.YtalhnnjpjaeakaaGreat

/- What writing into a row of one's own leaves as it was. -/
import Derived.Test.YtdkpilgelgjieaaG25
import Derived.Test.YtdkpilgelgjieaaG00
namespace Go.Proofs.Ytdkpilgelgjieaa
open Go.RowKit
open Tr
set_option linter.unusedVariables false
set_option maxRecDepth 100000
/-- Blocks that are not the row's. -/
def KF (v : Value) : Nat → Prop := fun b => v.ownBlock ≠ some b
/-- What laying things into a row of one's own leaves: all blocks but the row's. -/
structure Fg (w w' : World) (v v' : Value) : Prop where
  os : w'.os = w.os
  tape : w'.tape = w.tape
  output : w'.output = w.output
  size : w.heap.size ≤ w'.heap.size
  block : ∀ k, k < w.heap.size → KF v k → w'.heap[k]? = w.heap[k]?
  own : v'.ownBlock = v.ownBlock ∨ ∀ k, v'.ownBlock = some k → w.heap.size ≤ k
theorem Fg.of_below {w w' : World} {v : Value} (h : Bl w w') : Fg w w' v v := ⟨Below.os h, Below.tape h, Below.output h, h.size, fun k hk _ => Below.block h k hk, .inl rfl⟩
theorem Fg.keep {w w' : World} {v v' : Value} (h : Fg w w' v v') : Keep (KF v) (KF v') w w' := fun g hg hl => ⟨h.block g hl hg, by
  rcases h.own with e | e
  · unfold KF; rw [e]; exact hg
  · intro q; have := e g q; omega⟩
theorem Fg.trans {w u z : World} {a b c : Value} (h : Fg w u a b) (k : Fg u z b c) : Fg w z a c := by
  refine ⟨k.os.trans h.os, k.tape.trans h.tape, k.output.trans h.output, Nat.le_trans h.size k.size, fun i hi ha => ?_, ?_⟩
  · have q := h.keep i ha hi
    exact (k.block i (Nat.lt_of_lt_of_le hi h.size) q.2).trans q.1
  · rcases k.own with e | e
    · rcases h.own with e2 | e2
      · exact .inl (e.trans e2)
      · exact .inr (fun k hk => e2 k (e ▸ hk))
    · exact .inr (fun k hk => Nat.le_trans h.size (e k hk))
theorem Sk.keep {K L : Nat → Prop} {w w' : World} {a : Option Addr} {n c : Nat} {bs : List Int} (h : Sk K w a n c bs) (hk : Keep K L w w') : Sk L w' a n c bs := by
  refine ⟨ag_keep h.ag (fun g off e h0 hl => (hk g (h.k _ e h0) hl).1), fun x hx h0 => ?_⟩
  exact (hk _ (h.k x hx h0) (h.old hx h0)).2
theorem keep_bl {K : Nat → Prop} {w w' : World} (h : Bl w w') : Keep K K w w' := fun g hg hl => ⟨Below.block h g hl, hg⟩
theorem Rw.fg {w w' : World} {v v' : Value} {g : Nat} {cells : Array Value} {T : TypeId} (h : Rw g w cells T) (hf : Fg w w' v v') (hk : KF v g) : Rw g w' cells T ∧ KF v' g := by
  have q := hf.keep g hk (lt_of_get h)
  exact ⟨q.1.trans h, q.2⟩
end Go.Proofs.Ytdkpilgelgjieaa
/- The keys and values alone say the tree. -/
namespace Go.Proofs.Ytdkpilgelgjieaa
set_option linter.unusedVariables false
namespace Tr
theorem Ok.kid {B : Nat} {k : Nat → Tr} {x : List Int} (h : Ok B (br k x)) {i : Nat} (hi : k i ≠ no) : ∃ q, Nb (((i : Nat) : Int) :: q) ∧ get (br k x) (((i : Nat) : Int) :: q) ≠ [] := by
  rcases h.1 i with h0 | ⟨h1, _, h3⟩
  · exact absurd h0 hi
  · obtain ⟨q, k1, _, k3⟩ := h3.some
    refine ⟨q, fun j hj => ?_, k3⟩
    rcases List.mem_cons.1 hj with rfl | hj
    · omega
    · exact k1 j hj
/-- Not all keys of a branch begin alike. -/
theorem Ok.spread {B : Nat} {k : Nat → Tr} {x : List Int} (h : Ok B (br k x)) (i : Int) : ∃ q, Nb q ∧ get (br k x) q ≠ [] ∧ ∀ r, q ≠ i :: r := by
  rcases h.2 with ⟨a, b, hab, ha, hb⟩ | ⟨hx, _⟩
  · by_cases e : ((a : Nat) : Int) = i
    · obtain ⟨q, h1, h2⟩ := h.kid hb
      exact ⟨_, h1, h2, fun r er => by injection er with er _; omega⟩
    · obtain ⟨q, h1, h2⟩ := h.kid ha
      exact ⟨_, h1, h2, fun r er => by injection er with er _; exact e er⟩
  · exact ⟨[], (fun j hj => by cases hj), hx, (fun r er => by cases er)⟩
/-- A branch has another key. -/
theorem Ok.another {B : Nat} {k : Nat → Tr} {x : List Int} (h : Ok B (br k x)) (p : List Int) : ∃ q, Nb q ∧ q ≠ p ∧ get (br k x) q ≠ [] := by
  cases p with
  | nil =>
    have : ∃ i, k i ≠ no := by
      rcases h.2 with ⟨i, _, _, h, _⟩ | ⟨_, i, h⟩ <;> exact ⟨i, h⟩
    obtain ⟨i, hi⟩ := this
    obtain ⟨q, h1, h2⟩ := h.kid hi
    exact ⟨_, h1, by simp, h2⟩
  | cons i r =>
    obtain ⟨q, h1, h2, h3⟩ := h.spread i
    exact ⟨q, h1, h3 r, h2⟩
theorem isBr_iff {t : Tr} (h : t.isBr = true) : ∃ k x, t = br k x := by
  cases t with
  | br k x => exact ⟨k, x, rfl⟩
  | no => simp [isBr] at h
  | leaf p v => simp [isBr] at h
  | ext p c => simp [isBr] at h
/-- Two extensions of the same keys have the same path: the shorter one is no proper beginning. -/
theorem ext_path {B C : Nat} {p p' : List Int} {k k' : Nat → Tr} {x x' : List Int} (hp : Nb p) (hp' : Nb p') (h : Ok B (br k x)) (h' : Ok C (br k' x')) (hg : ∀ q, Nb q → get (ext p (br k x)) q = get (ext p' (br k' x')) q) (hl : p.length ≤ p'.length) : p = p' := by
  have key : ∀ q, Nb q → get (br k x) q ≠ [] → ∃ s, p ++ q = p' ++ s := by
    intro q hq hne
    have e := hg (p ++ q) (hp.app hq)
    rw [get_ext] at e
    by_cases hs : ∃ s, p ++ q = p' ++ s
    · exact hs
    · rw [get_ext_no p' _ _ hs] at e
      exact absurd e hne
  obtain ⟨q0, h1, h2⟩ : ∃ q, Nb q ∧ get (br k x) q ≠ [] := by obtain ⟨q, h1, _, h2⟩ := h.another []; exact ⟨q, h1, h2⟩
  obtain ⟨s0, e0⟩ := key q0 h1 h2
  have ep : p = p'.take p.length := by
    have := congrArg (List.take p.length) e0
    rw [List.take_left, List.take_append_of_le_length hl] at this
    exact this
  rcases Nat.lt_or_ge p.length p'.length with hlt | hge
  · exfalso
    obtain ⟨i, r, er⟩ : ∃ i r, p'.drop p.length = i :: r := by
      cases hd : p'.drop p.length with
      | nil => have := congrArg List.length hd; simp at this; omega
      | cons i r => exact ⟨i, r, rfl⟩
    have e' : p' = p ++ (i :: r) := by
      conv => lhs; rw [← List.take_append_drop p.length p', ← ep, er]
    obtain ⟨q, g1, g2, g3⟩ := h.spread i
    obtain ⟨s, es⟩ := key q g1 g2
    rw [e', List.append_assoc] at es
    have := List.append_cancel_left es
    exact g3 _ this
  · rw [ep, List.take_of_length_le hge]
theorem Ok.uniq : ∀ {t s : Tr} {B C : Nat}, Ok B t → Ok C s → (∀ q, Nb q → get t q = get s q) → t = s := by
  intro t
  induction t with
  | no => intro s B C h; exact h.elim
  | leaf p v =>
    intro s B C h h' hg
    cases s with
    | no => exact h'.elim
    | leaf p' v' =>
      have e := hg p h.1
      simp only [get] at e
      by_cases hp : p = p'
      · subst hp
        simp at e
        rw [e]
      · rw [if_neg hp] at e
        simp at e
        exact absurd e h.2.2
    | ext p' c =>
      exfalso
      obtain ⟨k, x, rfl⟩ := isBr_iff h'.2.2.2.1
      obtain ⟨q, h1, h2, h3⟩ := h'.2.2.2.2.another (p.drop p'.length)
      have e := hg (p' ++ q) (h'.1.app h1)
      rw [get_ext] at e
      simp only [get] at e
      by_cases hp : p' ++ q = p
      · exact h2 (by rw [← hp]; simp)
      · rw [if_neg hp] at e
        exact h3 e.symm
    | br k x =>
      exfalso
      obtain ⟨q, h1, h2, h3⟩ := Ok.another h' p
      have e := hg q h1
      simp only [get] at e
      rw [if_neg h2] at e
      exact h3 e.symm
  | ext p c ih =>
    intro s B C h h' hg
    obtain ⟨k, x, rfl⟩ := isBr_iff h.2.2.2.1
    cases s with
    | no => exact h'.elim
    | leaf p' v' =>
      exfalso
      obtain ⟨q, h1, h2, h3⟩ := h.2.2.2.2.another (p'.drop p.length)
      have e := hg (p ++ q) (h.1.app h1)
      rw [get_ext] at e
      simp only [get] at e
      by_cases hp : p ++ q = p'
      · exact h2 (by rw [← hp]; simp)
      · rw [if_neg hp] at e
        exact h3 e
    | ext p' c' =>
      obtain ⟨k', x', rfl⟩ := isBr_iff h'.2.2.2.1
      have ep : p = p' := by
        rcases Nat.le_total p.length p'.length with hl | hl
        · exact ext_path h.1 h'.1 h.2.2.2.2 h'.2.2.2.2 hg hl
        · exact (ext_path h'.1 h.1 h'.2.2.2.2 h.2.2.2.2 (fun q hq => (hg q hq).symm) hl).symm
      subst ep
      congr 1
      exact ih h.2.2.2.2 h'.2.2.2.2 (fun q hq => by
        have e := hg (p ++ q) (h.1.app hq)
        rw [get_ext, get_ext] at e
        exact e)
    | br k' x' =>
      exfalso
      cases p with
      | nil => exact h.2.1 rfl
      | cons i r =>
        obtain ⟨q, h1, h2, h3⟩ := Ok.spread h' i
        have e := hg q h1
        rw [get_ext_no _ _ _ (fun ⟨s, es⟩ => h3 _ es)] at e
        exact h2 e.symm
  | br k x ih =>
    intro s B C h h' hg
    cases s with
    | no => exact h'.elim
    | leaf p' v' =>
      exfalso
      obtain ⟨q, h1, h2, h3⟩ := Ok.another h p'
      have e := hg q h1
      rw [show get (leaf p' v') q = [] from by simp only [get]; rw [if_neg h2]] at e
      exact h3 e
    | ext p' c' =>
      exfalso
      cases p' with
      | nil => exact h'.2.1 rfl
      | cons i r =>
        obtain ⟨q, h1, h2, h3⟩ := Ok.spread h i
        have e := hg q h1
        rw [get_ext_no _ _ _ (fun ⟨s, es⟩ => h3 _ es)] at e
        exact h2 e
    | br k' x' =>
      have ex : x = x' := hg [] (fun j hj => by cases hj)
      have ek : k = k' := by
        funext i
        have hgi : i < 16 → ∀ r, Nb r → get (k i) r = get (k' i) r := fun hi r hr => hg (((i : Nat) : Int) :: r) (fun j hj => by
          rcases List.mem_cons.1 hj with rfl | hj
          · omega
          · exact hr j hj)
        rcases h.1 i with h0 | ⟨h1, _, h3⟩
        · rcases h'.1 i with g0 | ⟨g1, _, g3⟩
          · rw [h0, g0]
          · obtain ⟨q, q1, _, q3⟩ := g3.some
            have := hgi g1 q q1
            rw [h0] at this
            exact absurd this.symm q3
        · rcases h'.1 i with g0 | ⟨g1, _, g3⟩
          · obtain ⟨q, q1, _, q3⟩ := h3.some
            have := hgi h1 q q1
            rw [g0] at this
            exact absurd this q3
          · exact ih i h3 g3 (hgi h1)
      rw [ex, ek]
end Tr
end Go.Proofs.Ytdkpilgelgjieaa
/- Keys told in order, as a way of forks: the tree that it stands for. -/
namespace Go.Proofs.Ytdkpilgelgjieaa
open Tr
set_option linter.unusedVariables false
/-- A place on a path where keys part, or where one ends: how deep, its kids, its value. -/
structure Fk where
  d : Nat
  k : Nat → Tr
  v : List Int
def allNo (k : Nat → Tr) : Bool := (List.range 16).all fun i => (k i).isNo
def fkT (f : Fk) : Tr := if allNo f.k then leaf [] f.v else br f.k f.v
def seg (P : List Int) (a b : Nat) : List Int := (P.take b).drop a
def ix (P : List Int) (i : Nat) : Nat := (P.getD i 0).toNat
/-- The tree of a way, from its end up. -/
def upT (P : List Int) : Nat → Tr → List Fk → Tr
  | d, t, [] => und (P.take d) t
  | d, t, g :: r => upT P g.d (br (upd g.k (ix P g.d) (und (seg P (g.d + 1) d) t)) g.v) r
def Dw : Nat → List Fk → Prop
  | _, [] => True
  | d, g :: r => g.d < d ∧ Dw g.d r
theorem take_seg {P : List Int} {a b : Nat} (h : a < b) (hb : b ≤ P.length) : P.take b = P.take a ++ P.getD a 0 :: seg P (a + 1) b := by
  have h1 : P.take b = (P.take b).take a ++ (P.take b).drop a := (List.take_append_drop a _).symm
  rw [List.take_take, Nat.min_eq_left (by omega)] at h1
  have h2 : a < (P.take b).length := by rw [List.length_take]; omega
  rw [List.drop_eq_getElem_cons h2] at h1
  rw [h1]
  congr 2
  rw [List.getElem_take, List.getD, List.getElem?_eq_getElem (by omega)]
  rfl
theorem seg_len {P : List Int} {a b : Nat} (hb : b ≤ P.length) : (seg P a b).length = b - a := by simp [seg]; omega
theorem ix_lt {P : List Int} (h : Nb P) {i : Nat} (hi : i < P.length) : ix P i < 16 ∧ ((ix P i : Nat) : Int) = P.getD i 0 := by
  have hm : P.getD i 0 ∈ P := by rw [List.getD, List.getElem?_eq_getElem hi]; exact List.getElem_mem _
  have := h _ hm
  unfold ix
  omega
theorem up_congr {P Q : List Int} : ∀ (r : List Fk) (d : Nat) (t : Tr), P.take d = Q.take d → Dw d r → upT P d t r = upT Q d t r
  | [], d, t, h, _ => by simp only [upT, h]
  | g :: r, d, t, h, hd => by
    have e1 : P.take g.d = Q.take g.d := by
      have := congrArg (List.take g.d) h
      rw [List.take_take, List.take_take, Nat.min_eq_left (by have := hd.1; omega)] at this
      exact this
    have e2 : ix P g.d = ix Q g.d := by
      unfold ix
      have := congrArg (fun l => l.getD g.d 0) h
      simp only [List.getD, List.getElem?_take_of_lt hd.1] at this
      rw [List.getD, List.getD, this]
    simp only [upT, seg, h, e2]
    exact up_congr r g.d _ e1 hd.2
theorem get_up {P : List Int} (hP : Nb P) : ∀ (r : List Fk) (d : Nat) (t : Tr), Dw d r → d ≤ P.length → ∀ s, Nb s → Tr.get (upT P d t r) s = if s.take d = P.take d then Tr.get t (s.drop d) else Tr.get (upT P d no r) s
  | [], d, t, _, hd, s, hs => by
    simp only [upT, get_und, List.length_take, Nat.min_eq_left hd]
    split
    · rfl
    · rfl
  | g :: r, d, t, hdw, hd, s, hs => by
    have hgd := hdw.1
    have ih := fun T => get_up hP r g.d T hdw.2 (by omega) s hs
    simp only [upT]
    rw [ih (br (upd g.k (ix P g.d) (und (seg P (g.d + 1) d) t)) g.v), ih (br (upd g.k (ix P g.d) (und (seg P (g.d + 1) d) no)) g.v)]
    have hts := take_seg hgd hd
    obtain ⟨hx1, hx2⟩ := ix_lt hP (show g.d < P.length by omega)
    by_cases h1 : s.take g.d = P.take g.d
    · rw [if_pos h1, if_pos h1]
      have hse : s = P.take g.d ++ s.drop g.d := by rw [← h1, List.take_append_drop]
      have hpl : (P.take g.d).length = g.d := by rw [List.length_take]; omega
      have hsl := seg_len (P := P) (a := g.d + 1) hd
      cases hq : s.drop g.d with
      | nil =>
        have hl : s.length = g.d := by rw [hse, hq, List.append_nil, hpl]
        rw [if_neg (fun e => by have := congrArg List.length e; rw [List.length_take, List.length_take] at this; omega)]
        simp [Tr.get]
      | cons x z =>
        have hxb : 0 ≤ x ∧ x < 16 := hs x (by rw [hse, hq]; simp)
        have hsd : s.drop d = z.drop (seg P (g.d + 1) d).length := by
          have : s.drop d = (s.drop g.d).drop (d - g.d) := by rw [List.drop_drop]; congr 1; omega
          rw [this, hq, hsl, show d - g.d = d - (g.d + 1) + 1 from by omega, List.drop_succ_cons]
        have hst : s.take d = P.take g.d ++ x :: z.take (seg P (g.d + 1) d).length := by
          have : s.take d = P.take g.d ++ (s.drop g.d).take (d - g.d) := by
            conv => lhs; rw [hse, List.take_append, hpl, List.take_of_length_le (by omega)]
          rw [this, hq, hsl, show d - g.d = d - (g.d + 1) + 1 from by omega, List.take_succ_cons]
        have hiff : s.take d = P.take d ↔ x.toNat = ix P g.d ∧ z.take (seg P (g.d + 1) d).length = seg P (g.d + 1) d := by
          rw [hst, hts, List.append_cancel_left_eq, List.cons.injEq]
          constructor
          · rintro ⟨e1, e2⟩; exact ⟨by omega, e2⟩
          · rintro ⟨e1, e2⟩; exact ⟨by omega, e2⟩
        simp only [Tr.get, upd]
        by_cases hxi : x.toNat = ix P g.d
        · rw [if_pos hxi, if_pos hxi, get_und, get_und]
          by_cases hz : z.take (seg P (g.d + 1) d).length = seg P (g.d + 1) d
          · rw [if_pos hz, if_pos (hiff.2 ⟨hxi, hz⟩), hsd]
          · rw [if_neg hz, if_neg hz, if_neg (fun e => hz (hiff.1 e).2)]
        · rw [if_neg hxi, if_neg hxi, if_neg (fun e => hxi (hiff.1 e).1)]
    · rw [if_neg h1, if_neg h1, if_neg (fun e => h1 (by have := congrArg (List.take g.d) e; rw [List.take_take, List.take_take, Nat.min_eq_left (by omega)] at this; exact this))]
/-- A fork above the end of a way: its kids are right, that of the way is not there yet, and there is something else. -/
structure Fok (P : List Int) (g : Fk) : Prop where
  k : ∀ i, g.k i = no ∨ (i < 16 ∧ 1 ≤ 64 - g.d ∧ Tr.Ok (64 - g.d - 1) (g.k i))
  hi : ∀ j, ix P g.d ≤ j → g.k j = no
  two : g.v ≠ [] ∨ ∃ j, g.k j ≠ no
theorem up_ok {P : List Int} (hP : Nb P) (h64 : P.length ≤ 64) : ∀ (r : List Fk) (d : Nat) (t : Tr), Dw d r → d ≤ P.length → Tr.Ok (64 - d) t → (∀ g ∈ r, Fok P g) → Tr.Ok 64 (upT P d t r)
  | [], d, t, _, hd, ht, _ => by
    have := und_ok (p := P.take d) (hP.take d) ht
    rw [List.length_take, Nat.min_eq_left hd, show 64 - d + d = 64 from by omega] at this
    exact this
  | g :: r, d, t, hdw, hd, ht, hF => by
    have hgd := hdw.1
    have hg := hF g (by simp)
    refine up_ok hP h64 r g.d _ hdw.2 (by omega) ?_ (fun q hq => hF q (List.mem_cons_of_mem _ hq))
    obtain ⟨hx1, hx2⟩ := ix_lt hP (show g.d < P.length by omega)
    have hu := und_ok (p := seg P (g.d + 1) d) ((hP.take d).drop _) ht
    rw [seg_len hd, show 64 - d + (d - (g.d + 1)) = 64 - g.d - 1 from by omega] at hu
    refine ⟨fun i => ?_, ?_⟩
    · by_cases e : i = ix P g.d
      · subst e; rw [upd_same]; exact .inr ⟨hx1, by omega, hu⟩
      · rw [upd_other _ _ e]; exact hg.k i
    · rcases hg.two with h | ⟨j, hj⟩
      · exact .inr ⟨h, ix P g.d, by rw [upd_same]; exact hu.ne⟩
      · have e : j ≠ ix P g.d := fun e => hj (hg.hi j (by omega))
        exact .inl ⟨j, ix P g.d, e, by rw [upd_other _ _ e]; exact hj, by rw [upd_same]; exact hu.ne⟩
theorem allNo_iff {k : Nat → Tr} : allNo k = true ↔ ∀ i, i < 16 → k i = no := by
  unfold allNo
  rw [List.all_eq_true]
  constructor
  · intro h i hi; exact isNo_iff.1 (h i (List.mem_range.2 hi))
  · intro h i hi; exact isNo_iff.2 (h i (List.mem_range.1 hi))
theorem get_fkT (f : Fk) : ∀ s, Nb s → Tr.get (fkT f) s = Tr.get (br f.k f.v) s := by
  intro s hs
  unfold fkT
  split
  · rename_i h
    cases s with
    | nil => simp [Tr.get]
    | cons x z =>
      have hx := hs.head
      rw [show Tr.get (br f.k f.v) (x :: z) = Tr.get (f.k x.toNat) z from rfl, allNo_iff.1 h x.toNat (by omega)]
      simp [Tr.get]
  · rfl
theorem fkT_ne (f : Fk) : fkT f ≠ no := by unfold fkT; split <;> simp
theorem und_nn (p : List Int) {t : Tr} (h : t ≠ no) : und p t ≠ no := by
  cases t with
  | no => exact absurd rfl h
  | leaf q v => simp [und]
  | ext q c => simp [und]
  | br k v => simp only [und]; split <;> simp
theorem fkT_br {d i : Nat} {k : Nat → Tr} {v : List Int} {t : Tr} (hi : i < 16) (ht : t ≠ no) : fkT ⟨d, upd k i t, v⟩ = br (upd k i t) v := by
  unfold fkT
  rw [if_neg]
  intro h
  have := allNo_iff.1 h i hi
  simp only [upd_same] at this
  exact ht this
/-- A fork into which the one below has gone. -/
def into (P : List Int) (g f : Fk) : Fk := ⟨g.d, upd g.k (ix P g.d) (und (seg P (g.d + 1) f.d) (fkT f)), g.v⟩
/-- All forks deeper than c are closed. -/
def clo (P : List Int) (c : Nat) : Fk → List Fk → Fk × List Fk
  | f, [] => if f.d = c then (f, []) else (into P ⟨c, nk, []⟩ f, [])
  | f, g :: r => if f.d = c then (f, g :: r) else if g.d < c then (into P ⟨c, nk, []⟩ f, g :: r) else clo P c (into P g f) r
/-- The last fork of a way: its kids are right, none lies behind the path's, and there is something. -/
structure Lk (P : List Int) (f : Fk) : Prop where
  k : ∀ i, f.k i = no ∨ (i < 16 ∧ 1 ≤ 64 - f.d ∧ Tr.Ok (64 - f.d - 1) (f.k i))
  hi : ∀ j, (f.d < P.length → ix P f.d < j) → f.k j = no
  two : f.v ≠ [] ∨ ∃ j, f.k j ≠ no
theorem Lk.into {P : List Int} (hP : Nb P) {g f : Fk} (hg1 : g.d < f.d) (hf1 : f.d ≤ P.length) (h64 : P.length ≤ 64) (ht : Tr.Ok (64 - f.d) (fkT f)) (hk : ∀ i, g.k i = no ∨ (i < 16 ∧ 1 ≤ 64 - g.d ∧ Tr.Ok (64 - g.d - 1) (g.k i))) (hhi : ∀ j, ix P g.d ≤ j → g.k j = no) : Lk P (into P g f) := by
  obtain ⟨hx1, hx2⟩ := ix_lt hP (show g.d < P.length by omega)
  have hu := und_ok (p := seg P (g.d + 1) f.d) ((hP.take f.d).drop _) ht
  rw [seg_len hf1, show 64 - f.d + (f.d - (g.d + 1)) = 64 - g.d - 1 from by omega] at hu
  refine ⟨fun i => ?_, fun j hj => ?_, .inr ⟨ix P g.d, ?_⟩⟩
  · show upd _ _ _ i = no ∨ _
    by_cases e : i = ix P g.d
    · subst e; rw [upd_same]; exact .inr ⟨hx1, by show 1 ≤ 64 - g.d; omega, by show Tr.Ok _ (upd _ _ _ _); rw [upd_same]; exact hu⟩
    · rw [upd_other _ _ e]
      rcases hk i with q | ⟨q1, q2, q3⟩
      · exact .inl q
      · exact .inr ⟨q1, q2, by show Tr.Ok _ (upd _ _ _ _); rw [upd_other _ _ e]; exact q3⟩
  · have hj2 : ix P g.d < j := hj (show g.d < P.length by omega)
    show upd _ _ _ j = no
    rw [upd_other _ _ (by omega)]
    exact hhi j (by omega)
  · show upd _ _ _ _ ≠ no
    rw [upd_same]; exact hu.ne
theorem up_no (P : List Int) (d e : Nat) (r : List Fk) : upT P d no r = upT P e no r := by
  cases r with
  | nil => rfl
  | cons g r => rfl
theorem up_new {P : List Int} (hP : Nb P) {c d : Nat} {t : Tr} {r : List Fk} (hc : c < d) (hd : d ≤ P.length) (hr : Dw c r) {s : List Int} (hs : Nb s) : Tr.get (upT P d t (⟨c, nk, []⟩ :: r)) s = Tr.get (upT P d t r) s := by
  have hr2 : Dw d r := by
    cases r with
    | nil => trivial
    | cons g r => exact ⟨by have := hr.1; omega, hr.2⟩
  rw [get_up hP (⟨c, nk, []⟩ :: r) d t ⟨hc, hr⟩ hd s hs, get_up hP r d t hr2 hd s hs]
  split
  · rfl
  · show Tr.get (upT P c (br (upd nk (ix P c) no) []) r) s = _
    rw [get_up hP r c _ hr (by omega) s hs, up_no P d c r]
    split
    · rename_i h
      rw [get_up hP r c no hr (by omega) s hs, if_pos h]
      cases s.drop c with
      | nil => rfl
      | cons x z => simp only [Tr.get, upd, nk]; split <;> rfl
    · rfl
theorem into_up {P : List Int} (hP : Nb P) {g f : Fk} (h : g.d < P.length) (r : List Fk) : upT P g.d (fkT (into P g f)) r = upT P f.d (fkT f) (g :: r) := by
  unfold into
  rw [fkT_br (ix_lt hP h).1 (und_nn _ (fkT_ne f))]
  rfl
theorem clo_spec {P : List Int} (hP : Nb P) (h64 : P.length ≤ 64) {c : Nat} : ∀ (r : List Fk) (f : Fk), Dw f.d r → c ≤ f.d → f.d ≤ P.length → Lk P f → Tr.Ok (64 - f.d) (fkT f) → (∀ g ∈ r, Fok P g) →
    (clo P c f r).1.d = c ∧ Dw c (clo P c f r).2 ∧ (∀ g ∈ (clo P c f r).2, g ∈ r) ∧ (∀ s, Nb s → Tr.get (upT P c (fkT (clo P c f r).1) (clo P c f r).2) s = Tr.get (upT P f.d (fkT f) r) s) ∧ Lk P (clo P c f r).1 := by
  have hnew : ∀ (r : List Fk) (f : Fk), Dw c r → c < f.d → f.d ≤ P.length → Tr.Ok (64 - f.d) (fkT f) → (∀ s, Nb s → Tr.get (upT P c (fkT (into P ⟨c, nk, []⟩ f)) r) s = Tr.get (upT P f.d (fkT f) r) s) ∧ Lk P (into P ⟨c, nk, []⟩ f) := by
    intro r f hr hc hf ht
    refine ⟨fun s hs => ?_, Lk.into hP hc hf h64 ht (fun i => .inl rfl) (fun j _ => rfl)⟩
    rw [show upT P c (fkT (into P ⟨c, nk, []⟩ f)) r = upT P f.d (fkT f) (⟨c, nk, []⟩ :: r) from into_up hP (g := ⟨c, nk, []⟩) (by show c < P.length; omega) r]
    exact up_new hP hc hf hr hs
  intro r
  induction r with
  | nil =>
    intro f hd hc hf hl ht hF
    by_cases e : f.d = c
    · simp only [clo, if_pos e]; subst e; exact ⟨rfl, trivial, (fun g hg => by simp at hg), fun _ _ => rfl, hl⟩
    · simp only [clo, if_neg e]
      obtain ⟨h1, h2⟩ := hnew [] f trivial (by omega) hf ht
      exact ⟨rfl, trivial, (fun g hg => by simp at hg), h1, h2⟩
  | cons g r ih =>
    intro f hd hc hf hl ht hF
    by_cases e : f.d = c
    · simp only [clo, if_pos e]; subst e; exact ⟨rfl, hd, (fun g hg => hg), fun _ _ => rfl, hl⟩
    · by_cases hg : g.d < c
      · simp only [clo, if_neg e, if_pos hg]
        obtain ⟨h1, h2⟩ := hnew (g :: r) f ⟨hg, hd.2⟩ (by omega) hf ht
        exact ⟨rfl, ⟨hg, hd.2⟩, (fun g hg => hg), h1, h2⟩
      · simp only [clo, if_neg e, if_neg hg]
        have hgf := hF g (by simp)
        have hgd := hd.1
        have hL : Lk P (into P g f) := Lk.into hP hd.1 hf h64 ht hgf.k hgf.hi
        have hbr : fkT (into P g f) = br (into P g f).k g.v := fkT_br (ix_lt hP (show g.d < P.length by omega)).1 (und_nn _ (fkT_ne f))
        have hOk : Tr.Ok (64 - g.d) (fkT (into P g f)) := by
          rw [hbr]
          have hki : (into P g f).k (ix P g.d) ≠ no := by show upd _ _ _ _ ≠ no; rw [upd_same]; exact und_nn _ (fkT_ne f)
          refine ⟨hL.k, ?_⟩
          rcases hgf.two with h | ⟨j, hj⟩
          · exact .inr ⟨h, ix P g.d, hki⟩
          · have ej : j ≠ ix P g.d := fun e => hj (hgf.hi j (by omega))
            exact .inl ⟨j, ix P g.d, ej, by show upd _ _ _ _ ≠ no; rw [upd_other _ _ ej]; exact hj, hki⟩
        obtain ⟨q1, q2, q3, q4, q5⟩ := ih (into P g f) hd.2 (show c ≤ g.d by omega) (show g.d ≤ P.length by omega) hL hOk (fun q hq => hF q (List.mem_cons_of_mem _ hq))
        refine ⟨q1, q2, fun q hq => List.mem_cons_of_mem _ (q3 q hq), fun s hs => ?_, q5⟩
        rw [q4 s hs, show (into P g f).d = g.d from rfl, into_up hP (by omega) r]
/-- The depth of the topmost fork. -/
def bot : Fk → List Fk → Nat
  | f, [] => f.d
  | _, g :: r => bot g r
theorem bot_le : ∀ (r : List Fk) (f : Fk), Dw f.d r → bot f r ≤ f.d
  | [], f, _ => Nat.le_refl _
  | g :: r, f, h => by have := bot_le r g h.2; have := h.1; show bot g r ≤ f.d; omega
theorem bot_d : ∀ (r : List Fk) (f g : Fk), f.d = g.d → bot f r = bot g r
  | [], f, g, h => h
  | _ :: _, f, g, h => rfl
theorem clo_root {P : List Int} (hP : Nb P) : ∀ (r : List Fk) (f : Fk), Dw f.d r → f.d ≤ P.length → (clo P (bot f r) f r).2 = [] ∧ und (P.take (bot f r)) (fkT (clo P (bot f r) f r).1) = upT P f.d (fkT f) r
  | [], f, _, _ => by simp [clo, bot, upT]
  | g :: r, f, hd, hf => by
    have hgd := hd.1
    have hb := bot_le r g hd.2
    have ih := clo_root hP r (into P g f) hd.2 (show g.d ≤ P.length by omega)
    have e : bot (into P g f) r = bot g r := bot_d r _ _ rfl
    rw [e, show (into P g f).d = g.d from rfl, into_up hP (by omega) r] at ih
    show (clo P (bot g r) f (g :: r)).2 = [] ∧ und (P.take (bot g r)) (fkT (clo P (bot g r) f (g :: r)).1) = _
    rw [show clo P (bot g r) f (g :: r) = clo P (bot g r) (into P g f) r from by simp only [clo]; rw [if_neg (by omega), if_neg (by omega)]]
    exact ih
/-- A builder that has taken something: the last key's path and value, the forks above it, the tree. -/
structure Bd (P : List Int) (r : List Fk) (v : List Int) (t : Tr) : Prop where
  nb : Nb P
  len : P.length ≤ 64
  nv : v ≠ []
  dw : Dw P.length r
  ok : ∀ g ∈ r, Fok P g
  t : t = upT P P.length (leaf [] v) r
theorem last_ok {P v : List Int} (hv : v ≠ []) : Lk P ⟨P.length, nk, v⟩ ∧ fkT ⟨P.length, nk, v⟩ = leaf [] v ∧ Tr.Ok (64 - P.length) (leaf [] v) := by
  refine ⟨⟨fun i => .inl rfl, fun j _ => rfl, .inl hv⟩, rfl, ⟨(fun i hi => by simp at hi), Nat.zero_le _, hv⟩⟩
theorem Bd.trOk {P : List Int} {r : List Fk} {v : List Int} {t : Tr} (h : Bd P r v t) : Tr.Ok 64 t := by
  rw [h.t]; exact up_ok h.nb h.len r _ _ h.dw (Nat.le_refl _) (last_ok h.nv).2.2 h.ok
theorem Bd.first {q w : List Int} (hq : Nb q) (hl : q.length ≤ 64) (hw : w ≠ []) : Bd q [] w (put no q w) := ⟨hq, hl, hw, trivial, (fun g hg => by simp at hg), by simp [upT, und, put]⟩
theorem Bd.add {P : List Int} {r : List Fk} {v : List Int} {t : Tr} (h : Bd P r v t) {q w : List Int} (hq : Nb q) (hl : q.length ≤ 64) (hw : w ≠ []) (hless : Ni.lessP P q = true) :
    Bd q ((clo P (Ni.com P q) ⟨P.length, nk, v⟩ r).1 :: (clo P (Ni.com P q) ⟨P.length, nk, v⟩ r).2) w (put t q w) := by
  obtain ⟨c, hc⟩ : ∃ c, Ni.com P q = c := ⟨_, rfl⟩
  have hcl := Ni.com_le P q
  have hct := Ni.com_take P q
  have hla := Ni.less_at P q
  rw [hless] at hla
  rw [hc] at hcl hct hla ⊢
  have hcq : c < q.length := by
    rcases Nat.lt_or_ge c q.length with z | z
    · exact z
    · rw [if_pos (by omega)] at hla; cases hla
  have hlt : c = P.length ∨ (c < P.length ∧ P.getD c 0 < q.getD c 0) := by
    rw [if_neg (by omega)] at hla
    by_cases e : c = P.length
    · exact .inl e
    · rw [if_neg e] at hla; exact .inr ⟨by omega, of_decide_eq_true hla.symm⟩
  obtain ⟨l1, l2, l3⟩ := last_ok (P := P) h.nv
  obtain ⟨s1, s2, s3, s4, s5⟩ := clo_spec h.nb h.len (c := c) r ⟨P.length, nk, v⟩ h.dw hcl.1 (Nat.le_refl _) l1 (by rw [l2]; exact l3) h.ok
  generalize clo P c ⟨P.length, nk, v⟩ r = z at s1 s2 s3 s4 s5
  obtain ⟨f, r'⟩ := z
  simp only at s1 s2 s3 s4 s5 ⊢
  subst s1
  obtain ⟨hx1, hx2⟩ := ix_lt hq hcq
  have hopen : ∀ j, ix q f.d ≤ j → f.k j = no := fun j hj => s5.hi j (fun hp => by
    rcases hlt with e | ⟨_, e⟩
    · omega
    · have := (ix_lt h.nb hp).2; omega)
  have hdwq : Dw q.length (f :: r') := ⟨hcq, s2⟩
  have hix : ∀ g ∈ r', ix q g.d = ix P g.d := by
    have hd : ∀ (l : List Fk) (d : Nat), Dw d l → ∀ g ∈ l, g.d < d := by
      intro l
      induction l with
      | nil => intro d _ g hg; simp at hg
      | cons x l ih =>
        intro d hd g hg
        rcases List.mem_cons.1 hg with e | e
        · rw [e]; exact hd.1
        · have := ih x.d hd.2 g e; have := hd.1; omega
    intro g hg
    have := hd r' f.d s2 g hg
    have e := congrArg (fun l => l.getD g.d 0) hct
    simp only [List.getD, List.getElem?_take_of_lt this] at e
    unfold ix
    rw [List.getD, List.getD, e]
  have hok2 : ∀ g ∈ f :: r', Fok q g := fun g hg => by
    rcases List.mem_cons.1 hg with e | e
    · subst e; exact ⟨s5.k, hopen, s5.two⟩
    · have := h.ok g (s3 g e)
      exact ⟨this.k, fun j hj => this.hi j (by rw [← hix g e]; exact hj), this.two⟩
  have hB : Bd q (f :: r') w (upT q q.length (leaf [] w) (f :: r')) := ⟨hq, hl, hw, hdwq, hok2, rfl⟩
  suffices e : upT q q.length (leaf [] w) (f :: r') = put t q w by rw [e] at hB; exact hB
  refine Ok.uniq hB.trOk (put_ok t 64 q w (.inr h.trOk) hq hl hw) (fun s hs => ?_)
  rw [get_put t 64 q w s (.inr h.trOk) hq hs, get_up hq _ _ _ hdwq (Nat.le_refl _) s hs, List.take_of_length_le (Nat.le_refl q.length)]
  have hno : ∀ s, Nb s → Tr.get (upT q q.length no (f :: r')) s = Tr.get t s := by
    intro s hs
    show Tr.get (upT q f.d (br (upd f.k (ix q f.d) no) f.v) r') s = _
    rw [show upd f.k (ix q f.d) no = f.k from by
      funext j
      by_cases e : j = ix q f.d
      · rw [e, upd_same]; exact (hopen _ (Nat.le_refl _)).symm
      · rw [upd_other _ _ e]]
    rw [← up_congr r' f.d _ hct s2, h.t, ← l2, ← s4 s hs, get_up h.nb r' f.d (br f.k f.v) s2 hcl.1 s hs, get_up h.nb r' f.d (fkT f) s2 hcl.1 s hs, get_fkT f _ (fun i hi => hs i (List.mem_of_mem_drop hi))]
  by_cases e : s = q
  · subst e
    rw [if_pos rfl, if_pos (List.take_of_length_le (Nat.le_refl _)), List.drop_of_length_le (Nat.le_refl _)]
    simp [Tr.get]
  · rw [if_neg e, ← hno s hs]
    split
    · rename_i h1
      have hsl : q.length ≤ s.length := by have := congrArg List.length h1; rw [List.length_take] at this; omega
      rw [get_up hq _ _ no hdwq (Nat.le_refl _) s hs, List.take_of_length_le (Nat.le_refl q.length), if_pos h1]
      cases hd : s.drop q.length with
      | nil =>
        refine absurd ?_ e
        rw [← List.take_append_drop q.length s, h1, hd, List.append_nil]
      | cons x z => simp [Tr.get]
    · rfl
theorem Bd.root {P : List Int} {r : List Fk} {v : List Int} {t : Tr} (h : Bd P r v t) : (clo P (bot ⟨P.length, nk, v⟩ r) ⟨P.length, nk, v⟩ r).2 = [] ∧ und (P.take (bot ⟨P.length, nk, v⟩ r)) (fkT (clo P (bot ⟨P.length, nk, v⟩ r) ⟨P.length, nk, v⟩ r).1) = t := by
  have := clo_root h.nb r ⟨P.length, nk, v⟩ h.dw (Nat.le_refl _)
  rw [h.t]; exact this
end Go.Proofs.Ytdkpilgelgjieaa
/- What a writer writes: branches, trees. -/
namespace Go.Proofs.Ytdkpilgelgjieaa
open Go.RowKit
open Tr
set_option linter.unusedVariables false
set_option maxRecDepth 100000
def rP (k : Nat → Tr) (i : Nat) : PR := if (k i).isNo then r0 else referP (encT (k i))
theorem built_N3f' : (fun (va : Option Addr) (vn vc : Nat) (ka : Option Addr) (kn kc : Nat) => Try.prog.built 73 [(0, .int .i64 3), (4, .slice ka kn kc), (2, .slice va vn vc)]) = fun va vn vc ka kn kc => some (NV.cells ⟨3, none, 0, 0, va, vn, vc, rz, ka, kn, kc⟩).toArray := by kernel_rfl
theorem built_N3' (va : Option Addr) (vn vc : Nat) (ka : Option Addr) (kn kc : Nat) : Try.prog.built 73 [(0, .int .i64 3), (4, .slice ka kn kc), (2, .slice va vn vc)] = some (NV.cells ⟨3, none, 0, 0, va, vn, vc, rz, ka, kn, kc⟩).toArray := congrFun (congrFun (congrFun (congrFun (congrFun (congrFun built_N3f' va) vn) vc) ka) kn) kc
theorem ref_zeroK (K : Nat → Prop) (w : World) : RefAt K w rz r0 := ⟨rfl, rfl, (ref_zero w).2.2.1, rfl, ⟨.inl ⟨rfl, rfl⟩, fun _ => ⟨rfl, rfl⟩, rfl, fun x hx => by cases hx⟩, Nat.zero_le _, fun _ _ e => by cases e⟩
end Go.Proofs.Ytdkpilgelgjieaa

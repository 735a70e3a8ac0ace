/- What writing into a row of one's own leaves as it was. -/
import Derived.Test.YtdkpilgelgjieaaGreatG30
import Derived.Test.YtdkpilgelgjieaaGreatG01
import Derived.Test.YtdkpilgelgjieaaGreatG17
import Derived.Test.YtdkpilgelgjieaaGreatG00
set_option linter.unusedVariables false
set_option maxRecDepth 100000
namespace Go.Proofs.YtdkpilgelgjieaaGreat
open Go.RowKit
open Tr
def KF (v : Value) : Nat -> Prop := fun b => v.ownBlock ≠ some b
structure Fg (w w' : World) (v v' : Value) : Prop where
 os : w'.os = w.os
 tape : w'.tape = w.tape
 output : w'.output = w.output
 size : w.heap.size <= w'.heap.size
 block : ∀ k, k < w.heap.size -> KF v k -> w'.heap[k]? = w.heap[k]?
 own : v'.ownBlock = v.ownBlock \/ ∀ k, v'.ownBlock = some k -> w.heap.size <= k
theorem Fg.of_below {w w' : World} {v : Value} (h : Bl w w') : Fg w w' v v := ⟨Below.os h, Below.tape h, Below.output h, h.size, fun k hk _ => Below.block h k hk, .inl rfl⟩
theorem Fg.keep {w w' : World} {v v' : Value} (h : Fg w w' v v') : Keep (KF v) (KF v') w w' := fun g hg hl => ⟨h.block g hl hg, by
 rcases h.own with e | e
 ·unfold KF; rw [e]; exact hg
 ·intro q; have := e g q; omega⟩
theorem Fg.trans {w u z : World} {a b c : Value} (h : Fg w u a b) (k : Fg u z b c) : Fg w z a c := by
 refine ⟨k.os.trans h.os, k.tape.trans h.tape, k.output.trans h.output, Nat.le_trans h.size k.size, fun i hi ha => ?_, ?_⟩
 ·have q := h.keep i ha hi
  exact (k.block i (Nat.lt_of_lt_of_le hi h.size) q.2).trans q.1
 ·rcases k.own with e | e
  ·rcases h.own with e2 | e2
   ·exact .inl (e.trans e2)
   ·exact .inr (fun k hk => e2 k (e ▸ hk))
  ·exact .inr (fun k hk => Nat.le_trans h.size (e k hk))
theorem Sk.keep {K L : Nat -> Prop} {w w' : World} {a : Option Addr} {n c : Nat} {bs : List Int} (h : Sk K w a n c bs) (hk : Keep K L w w') : Sk L w' a n c bs := by
 refine ⟨Zle h.ag (fun g off e h0 hl => (hk g (h.k _ e h0) hl).1), fun x hx h0 => ?_⟩
 exact (hk _ (h.k x hx h0) (h.old hx h0)).2
theorem Zcj {K : Nat -> Prop} {w w' : World} (h : Bl w w') : Keep K K w w' := fun g hg hl => ⟨Below.block h g hl, hg⟩
theorem Rw.fg {w w' : World} {v v' : Value} {g : Nat} {cells : Array Value} {T : TypeId} (h : Rw g w cells T) (hf : Fg w w' v v') (hk : KF v g) : Rw g w' cells T /\ KF v' g := by
 have q := hf.keep g hk (lt_of_get h)
 exact ⟨q.1.trans h, q.2⟩
end Go.Proofs.YtdkpilgelgjieaaGreat
namespace Go.Proofs.YtdkpilgelgjieaaGreat
open Tr
structure Fk where
 d : Nat
 k : Nat -> Tr
 v : List Int
def allNo (k : Nat -> Tr) : Bool := (List.range 16).all fun i => (k i).isNo
def fkT (f : Fk) : Tr := if allNo f.k then leaf [] f.v else br f.k f.v
def seg (P : List Int) (a b : Nat) : List Int := (P.take b).drop a
def ix (P : List Int) (i : Nat) : Nat := (P.getD i 0).toNat
def upT (P : List Int) : Nat -> Tr -> List Fk -> Tr
 | d, t, [] => und (P.take d) t
 | d, t, g :: r => upT P g.d (br (upd g.k (ix P g.d) (und (seg P (g.d + 1) d) t)) g.v) r
def Dw : Nat -> List Fk -> Prop
 | _, [] => True
 | d, g :: r => g.d < d /\ Dw g.d r
theorem Zuh {P : List Int} {a b : Nat} (h : a < b) (hb : b <= P.length) : P.take b = P.take a ++ P.getD a 0 :: seg P (a + 1) b := by
 have h1 : P.take b = (P.take b).take a ++ (P.take b).drop a := (List.take_append_drop a _).symm
 rw [List.take_take, Nat.min_eq_left (by omega)] at h1
 have h2 : a < (P.take b).length := by rw [List.length_take]; omega
 rw [List.drop_eq_getElem_cons h2] at h1
 rw [h1]
 congr 2
 rw [List.getElem_take, List.getD, List.getElem?_eq_getElem (by omega)]
 rfl
theorem Zm6 {P : List Int} {a b : Nat} (hb : b <= P.length) : (seg P a b).length = b - a := by simp [seg]; omega
theorem Zmg {P : List Int} (h : Nb P) {i : Nat} (hi : i < P.length) : ix P i < 16 /\ ((ix P i : Nat) : Int) = P.getD i 0 := by
 have hm : P.getD i 0 ∈ P := by rw [List.getD, List.getElem?_eq_getElem hi]; exact List.getElem_mem _
 have := h _ hm
 unfold ix
 omega
theorem Zn3 {P Q : List Int} : ∀ (r : List Fk) (d : Nat) (t : Tr), P.take d = Q.take d -> Dw d r -> upT P d t r = upT Q d t r
 | [], d, t, h, _ => by simp only [upT, h]
 | g :: r, d, t, h, hd => by
  have e1 : P.take g.d = Q.take g.d := by
   have := congrArg (List.take g.d) h
   rw [List.take_take, List.take_take, Nat.min_eq_left (by have := hd.1; omega)] at this
   exact this
  have e2 : ix P g.d = ix Q g.d := by
   unfold ix
   have := congrArg (fun l => l.getD g.d 0) h
   simp only [List.getD, List.getElem?_take_of_lt hd.1] at this
   rw [List.getD, List.getD, this]
  simp only [upT, seg, h, e2]
  exact Zn3 r g.d _ e1 hd.2
theorem Zfy {P : List Int} (hP : Nb P) : ∀ (r : List Fk) (d : Nat) (t : Tr), Dw d r -> d <= P.length -> ∀ s, Nb s -> Tr.get (upT P d t r) s = if s.take d = P.take d then Tr.get t (s.drop d) else Tr.get (upT P d no r) s
 | [], d, t, _, hd, s, hs => by
  simp only [upT, Ziy, List.length_take, Nat.min_eq_left hd]
  split
  ·rfl
  ·rfl
 | g :: r, d, t, hdw, hd, s, hs => by
  have hgd := hdw.1
  have ih := fun T => Zfy hP r g.d T hdw.2 (by omega) s hs
  simp only [upT]
  rw [ih (br (upd g.k (ix P g.d) (und (seg P (g.d + 1) d) t)) g.v), ih (br (upd g.k (ix P g.d) (und (seg P (g.d + 1) d) no)) g.v)]
  have hts := Zuh hgd hd
  obtain ⟨hx1, hx2⟩ := Zmg hP (show g.d < P.length by omega)
  by_cases h1 : s.take g.d = P.take g.d
  ·rw [if_pos h1, if_pos h1]
   have hse : s = P.take g.d ++ s.drop g.d := by rw [<- h1, List.take_append_drop]
   have hpl : (P.take g.d).length = g.d := by rw [List.length_take]; omega
   have hsl := Zm6 (P := P) (a := g.d + 1) hd
   cases hq : s.drop g.d with
   | nil =>
    have hl : s.length = g.d := by rw [hse, hq, List.append_nil, hpl]
    rw [if_neg (fun e => by have := congrArg List.length e; rw [List.length_take, List.length_take] at this; omega)]
    simp [Tr.get]
   | cons x z =>
    have hxb : 0 <= x /\ x < 16 := hs x (by rw [hse, hq]; simp)
    have hsd : s.drop d = z.drop (seg P (g.d + 1) d).length := by
     have : s.drop d = (s.drop g.d).drop (d - g.d) := by rw [List.drop_drop]; congr 1; omega
     rw [this, hq, hsl, show d - g.d = d - (g.d + 1) + 1 from by omega, List.drop_succ_cons]
    have hst : s.take d = P.take g.d ++ x :: z.take (seg P (g.d + 1) d).length := by
     have : s.take d = P.take g.d ++ (s.drop g.d).take (d - g.d) := by
      conv => lhs; rw [hse, List.take_append, hpl, List.take_of_length_le (by omega)]
     rw [this, hq, hsl, show d - g.d = d - (g.d + 1) + 1 from by omega, List.take_succ_cons]
    have hiff : s.take d = P.take d ↔ x.toNat = ix P g.d /\ z.take (seg P (g.d + 1) d).length = seg P (g.d + 1) d := by
     rw [hst, hts, List.append_cancel_left_eq, List.cons.injEq]
     constructor
     ·rintro ⟨e1, e2⟩; exact ⟨by omega, e2⟩
     ·rintro ⟨e1, e2⟩; exact ⟨by omega, e2⟩
    simp only [Tr.get, upd]
    by_cases hxi : x.toNat = ix P g.d
    ·rw [if_pos hxi, if_pos hxi, Ziy, Ziy]
     by_cases hz : z.take (seg P (g.d + 1) d).length = seg P (g.d + 1) d
     ·rw [if_pos hz, if_pos (hiff.2 ⟨hxi, hz⟩), hsd]
     ·rw [if_neg hz, if_neg hz, if_neg (fun e => hz (hiff.1 e).2)]
    ·rw [if_neg hxi, if_neg hxi, if_neg (fun e => hxi (hiff.1 e).1)]
  ·rw [if_neg h1, if_neg h1, if_neg (fun e => h1 (by have := congrArg (List.take g.d) e; rw [List.take_take, List.take_take, Nat.min_eq_left (by omega)] at this; exact this))]
structure Fok (P : List Int) (g : Fk) : Prop where
 k : ∀ i, g.k i = no \/ (i < 16 /\ 1 <= 64 - g.d /\ Tr.Ok (64 - g.d - 1) (g.k i))
 hi : ∀ j, ix P g.d <= j -> g.k j = no
 two : g.v ≠ [] \/ ∃ j, g.k j ≠ no
theorem Zy2 {P : List Int} (hP : Nb P) (h64 : P.length <= 64) : ∀ (r : List Fk) (d : Nat) (t : Tr), Dw d r -> d <= P.length -> Tr.Ok (64 - d) t -> (∀ g ∈ r, Fok P g) -> Tr.Ok 64 (upT P d t r)
 | [], d, t, _, hd, ht, _ => by
  have := Zjh (p := P.take d) (hP.take d) ht
  rw [List.length_take, Nat.min_eq_left hd, show 64 - d + d = 64 from by omega] at this
  exact this
 | g :: r, d, t, hdw, hd, ht, hF => by
  have hgd := hdw.1
  have hg := hF g (by simp)
  refine Zy2 hP h64 r g.d _ hdw.2 (by omega) ?_ (fun q hq => hF q (List.mem_cons_of_mem _ hq))
  obtain ⟨hx1, hx2⟩ := Zmg hP (show g.d < P.length by omega)
  have hu := Zjh (p := seg P (g.d + 1) d) ((hP.take d).drop _) ht
  rw [Zm6 hd, show 64 - d + (d - (g.d + 1)) = 64 - g.d - 1 from by omega] at hu
  refine ⟨fun i => ?_, ?_⟩
  ·by_cases e : i = ix P g.d
   ·subst e; rw [Zau]; exact .inr ⟨hx1, by omega, hu⟩
   ·rw [Zav _ _ e]; exact hg.k i
  ·rcases hg.two with h | ⟨j, hj⟩
   ·exact .inr ⟨h, ix P g.d, by rw [Zau]; exact hu.ne⟩
   ·have e : j ≠ ix P g.d := fun e => hj (hg.hi j (by omega))
    exact .inl ⟨j, ix P g.d, e, by rw [Zav _ _ e]; exact hj, by rw [Zau]; exact hu.ne⟩
theorem allNo_iff {k : Nat -> Tr} : allNo k = true ↔ ∀ i, i < 16 -> k i = no := by
 unfold allNo
 rw [List.all_eq_true]
 constructor
 ·intro h i hi; exact isNo_iff.1 (h i (List.mem_range.2 hi))
 ·intro h i hi; exact isNo_iff.2 (h i (List.mem_range.1 hi))
theorem Zyb (f : Fk) : ∀ s, Nb s -> Tr.get (fkT f) s = Tr.get (br f.k f.v) s := by
 intro s hs
 unfold fkT
 split
 ·rename_i h
  cases s with
  | nil => simp [Tr.get]
  | cons x z =>
   have hx := hs.head
   rw [show Tr.get (br f.k f.v) (x :: z) = Tr.get (f.k x.toNat) z from rfl, allNo_iff.1 h x.toNat (by omega)]
   simp [Tr.get]
 ·rfl
theorem Zo7 (f : Fk) : fkT f ≠ no := by unfold fkT; split <;> simp
theorem Zn5 (p : List Int) {t : Tr} (h : t ≠ no) : und p t ≠ no := by
 cases t with
 | no => exact absurd rfl h
 | leaf q v => simp [und]
 | ext q c => simp [und]
 | br k v => simp only [und]; split <;> simp
theorem Zws {d i : Nat} {k : Nat -> Tr} {v : List Int} {t : Tr} (hi : i < 16) (ht : t ≠ no) : fkT ⟨d, upd k i t, v⟩ = br (upd k i t) v := by
 unfold fkT
 rw [if_neg]
 intro h
 have := allNo_iff.1 h i hi
 simp only [Zau] at this
 exact ht this
def into (P : List Int) (g f : Fk) : Fk := ⟨g.d, upd g.k (ix P g.d) (und (seg P (g.d + 1) f.d) (fkT f)), g.v⟩
def clo (P : List Int) (c : Nat) : Fk -> List Fk -> Fk × List Fk
 | f, [] => if f.d = c then (f, []) else (into P ⟨c, nk, []⟩ f, [])
 | f, g :: r => if f.d = c then (f, g :: r) else if g.d < c then (into P ⟨c, nk, []⟩ f, g :: r) else clo P c (into P g f) r
structure Lk (P : List Int) (f : Fk) : Prop where
 k : ∀ i, f.k i = no \/ (i < 16 /\ 1 <= 64 - f.d /\ Tr.Ok (64 - f.d - 1) (f.k i))
 hi : ∀ j, (f.d < P.length -> ix P f.d < j) -> f.k j = no
 two : f.v ≠ [] \/ ∃ j, f.k j ≠ no
theorem Lk.into {P : List Int} (hP : Nb P) {g f : Fk} (hg1 : g.d < f.d) (hf1 : f.d <= P.length) (h64 : P.length <= 64) (ht : Tr.Ok (64 - f.d) (fkT f)) (hk : ∀ i, g.k i = no \/ (i < 16 /\ 1 <= 64 - g.d /\ Tr.Ok (64 - g.d - 1) (g.k i))) (hhi : ∀ j, ix P g.d <= j -> g.k j = no) : Lk P (into P g f) := by
 obtain ⟨hx1, hx2⟩ := Zmg hP (show g.d < P.length by omega)
 have hu := Zjh (p := seg P (g.d + 1) f.d) ((hP.take f.d).drop _) ht
 rw [Zm6 hf1, show 64 - f.d + (f.d - (g.d + 1)) = 64 - g.d - 1 from by omega] at hu
 refine ⟨fun i => ?_, fun j hj => ?_, .inr ⟨ix P g.d, ?_⟩⟩
 ·show upd _ _ _ i = no \/ _
  by_cases e : i = ix P g.d
  ·subst e; rw [Zau]; exact .inr ⟨hx1, by show 1 <= 64 - g.d; omega, by show Tr.Ok _ (upd _ _ _ _); rw [Zau]; exact hu⟩
  ·rw [Zav _ _ e]
   rcases hk i with q | ⟨q1, q2, q3⟩
   ·exact .inl q
   ·exact .inr ⟨q1, q2, by show Tr.Ok _ (upd _ _ _ _); rw [Zav _ _ e]; exact q3⟩
 ·have hj2 : ix P g.d < j := hj (show g.d < P.length by omega)
  show upd _ _ _ j = no
  rw [Zav _ _ (by omega)]
  exact hhi j (by omega)
 ·show upd _ _ _ _ ≠ no
  rw [Zau]; exact hu.ne
theorem up_no (P : List Int) (d e : Nat) (r : List Fk) : upT P d no r = upT P e no r := by
 cases r with
 | nil => rfl
 | cons g r => rfl
theorem Zy3 {P : List Int} (hP : Nb P) {c d : Nat} {t : Tr} {r : List Fk} (hc : c < d) (hd : d <= P.length) (hr : Dw c r) {s : List Int} (hs : Nb s) : Tr.get (upT P d t (⟨c, nk, []⟩ :: r)) s = Tr.get (upT P d t r) s := by
 have hr2 : Dw d r := by
  cases r with
  | nil => trivial
  | cons g r => exact ⟨by have := hr.1; omega, hr.2⟩
 rw [Zfy hP (⟨c, nk, []⟩ :: r) d t ⟨hc, hr⟩ hd s hs, Zfy hP r d t hr2 hd s hs]
 split
 ·rfl
 ·show Tr.get (upT P c (br (upd nk (ix P c) no) []) r) s = _
  rw [Zfy hP r c _ hr (by omega) s hs, up_no P d c r]
  split
  ·rename_i h
   rw [Zfy hP r c no hr (by omega) s hs, if_pos h]
   cases s.drop c with
   | nil => rfl
   | cons x z => simp only [Tr.get, upd, nk]; split <;> rfl
  ·rfl
theorem Zno {P : List Int} (hP : Nb P) {g f : Fk} (h : g.d < P.length) (r : List Fk) : upT P g.d (fkT (into P g f)) r = upT P f.d (fkT f) (g :: r) := by
 unfold into
 rw [Zws (Zmg hP h).1 (Zn5 _ (Zo7 f))]
 rfl
theorem Zvm {P : List Int} (hP : Nb P) (h64 : P.length <= 64) {c : Nat} : ∀ (r : List Fk) (f : Fk), Dw f.d r -> c <= f.d -> f.d <= P.length -> Lk P f -> Tr.Ok (64 - f.d) (fkT f) -> (∀ g ∈ r, Fok P g) →
  (clo P c f r).1.d = c /\ Dw c (clo P c f r).2 /\ (∀ g ∈ (clo P c f r).2, g ∈ r) /\ (∀ s, Nb s -> Tr.get (upT P c (fkT (clo P c f r).1) (clo P c f r).2) s = Tr.get (upT P f.d (fkT f) r) s) /\ Lk P (clo P c f r).1 := by
 have hnew : ∀ (r : List Fk) (f : Fk), Dw c r -> c < f.d -> f.d <= P.length -> Tr.Ok (64 - f.d) (fkT f) -> (∀ s, Nb s -> Tr.get (upT P c (fkT (into P ⟨c, nk, []⟩ f)) r) s = Tr.get (upT P f.d (fkT f) r) s) /\ Lk P (into P ⟨c, nk, []⟩ f) := by
  intro r f hr hc hf ht
  refine ⟨fun s hs => ?_, Lk.into hP hc hf h64 ht (fun i => .inl rfl) (fun j _ => rfl)⟩
  rw [show upT P c (fkT (into P ⟨c, nk, []⟩ f)) r = upT P f.d (fkT f) (⟨c, nk, []⟩ :: r) from Zno hP (g := ⟨c, nk, []⟩) (by show c < P.length; omega) r]
  exact Zy3 hP hc hf hr hs
 intro r
 induction r with
 | nil =>
  intro f hd hc hf hl ht hF
  by_cases e : f.d = c
  ·simp only [clo, if_pos e]; subst e; exact ⟨rfl, trivial, (fun g hg => by simp at hg), fun _ _ => rfl, hl⟩
  ·simp only [clo, if_neg e]
   obtain ⟨h1, h2⟩ := hnew [] f trivial (by omega) hf ht
   exact ⟨rfl, trivial, (fun g hg => by simp at hg), h1, h2⟩
 | cons g r ih =>
  intro f hd hc hf hl ht hF
  by_cases e : f.d = c
  ·simp only [clo, if_pos e]; subst e; exact ⟨rfl, hd, (fun g hg => hg), fun _ _ => rfl, hl⟩
  ·by_cases hg : g.d < c
   ·simp only [clo, if_neg e, if_pos hg]
    obtain ⟨h1, h2⟩ := hnew (g :: r) f ⟨hg, hd.2⟩ (by omega) hf ht
    exact ⟨rfl, ⟨hg, hd.2⟩, (fun g hg => hg), h1, h2⟩
   ·simp only [clo, if_neg e, if_neg hg]
    have hgf := hF g (by simp)
    have hgd := hd.1
    have hL : Lk P (into P g f) := Lk.into hP hd.1 hf h64 ht hgf.k hgf.hi
    have hbr : fkT (into P g f) = br (into P g f).k g.v := Zws (Zmg hP (show g.d < P.length by omega)).1 (Zn5 _ (Zo7 f))
    have hOk : Tr.Ok (64 - g.d) (fkT (into P g f)) := by
     rw [hbr]
     have hki : (into P g f).k (ix P g.d) ≠ no := by show upd _ _ _ _ ≠ no; rw [Zau]; exact Zn5 _ (Zo7 f)
     refine ⟨hL.k, ?_⟩
     rcases hgf.two with h | ⟨j, hj⟩
     ·exact .inr ⟨h, ix P g.d, hki⟩
     ·have ej : j ≠ ix P g.d := fun e => hj (hgf.hi j (by omega))
      exact .inl ⟨j, ix P g.d, ej, by show upd _ _ _ _ ≠ no; rw [Zav _ _ ej]; exact hj, hki⟩
    obtain ⟨q1, q2, q3, q4, q5⟩ := ih (into P g f) hd.2 (show c <= g.d by omega) (show g.d <= P.length by omega) hL hOk (fun q hq => hF q (List.mem_cons_of_mem _ hq))
    refine ⟨q1, q2, fun q hq => List.mem_cons_of_mem _ (q3 q hq), fun s hs => ?_, q5⟩
    rw [q4 s hs, show (into P g f).d = g.d from rfl, Zno hP (by omega) r]
def bot : Fk -> List Fk -> Nat
 | f, [] => f.d
 | _, g :: r => bot g r
theorem Zty : ∀ (r : List Fk) (f : Fk), Dw f.d r -> bot f r <= f.d
 | [], f, _ => Nat.le_refl _
 | g :: r, f, h => by have := Zty r g h.2; have := h.1; show bot g r <= f.d; omega
theorem bot_d : ∀ (r : List Fk) (f g : Fk), f.d = g.d -> bot f r = bot g r
 | [], f, g, h => h
 | _ :: _, f, g, h => rfl
theorem Zpi {P : List Int} (hP : Nb P) : ∀ (r : List Fk) (f : Fk), Dw f.d r -> f.d <= P.length -> (clo P (bot f r) f r).2 = [] /\ und (P.take (bot f r)) (fkT (clo P (bot f r) f r).1) = upT P f.d (fkT f) r
 | [], f, _, _ => by simp [clo, bot, upT]
 | g :: r, f, hd, hf => by
  have hgd := hd.1
  have hb := Zty r g hd.2
  have ih := Zpi hP r (into P g f) hd.2 (show g.d <= P.length by omega)
  have e : bot (into P g f) r = bot g r := bot_d r _ _ rfl
  rw [e, show (into P g f).d = g.d from rfl, Zno hP (by omega) r] at ih
  show (clo P (bot g r) f (g :: r)).2 = [] /\ und (P.take (bot g r)) (fkT (clo P (bot g r) f (g :: r)).1) = _
  rw [show clo P (bot g r) f (g :: r) = clo P (bot g r) (into P g f) r from by simp only [clo]; rw [if_neg (by omega), if_neg (by omega)]]
  exact ih
structure Bd (P : List Int) (r : List Fk) (v : List Int) (t : Tr) : Prop where
 nb : Nb P
 len : P.length <= 64
 nv : v ≠ []
 dw : Dw P.length r
 ok : ∀ g ∈ r, Fok P g
 t : t = upT P P.length (leaf [] v) r
theorem Zsp {P v : List Int} (hv : v ≠ []) : Lk P ⟨P.length, nk, v⟩ /\ fkT ⟨P.length, nk, v⟩ = leaf [] v /\ Tr.Ok (64 - P.length) (leaf [] v) := by
 refine ⟨⟨fun i => .inl rfl, fun j _ => rfl, .inl hv⟩, rfl, ⟨(fun i hi => by simp at hi), Nat.zero_le _, hv⟩⟩
theorem Bd.trOk {P : List Int} {r : List Fk} {v : List Int} {t : Tr} (h : Bd P r v t) : Tr.Ok 64 t := by
 rw [h.t]; exact Zy2 h.nb h.len r _ _ h.dw (Nat.le_refl _) (Zsp h.nv).2.2 h.ok
theorem Bd.first {q w : List Int} (hq : Nb q) (hl : q.length <= 64) (hw : w ≠ []) : Bd q [] w (put no q w) := ⟨hq, hl, hw, trivial, (fun g hg => by simp at hg), by simp [upT, und, put]⟩
theorem Bd.add {P : List Int} {r : List Fk} {v : List Int} {t : Tr} (h : Bd P r v t) {q w : List Int} (hq : Nb q) (hl : q.length <= 64) (hw : w ≠ []) (hless : Ni.lessP P q = true) :
  Bd q ((clo P (Ni.com P q) ⟨P.length, nk, v⟩ r).1 :: (clo P (Ni.com P q) ⟨P.length, nk, v⟩ r).2) w (put t q w) := by
 obtain ⟨c, hc⟩ : ∃ c, Ni.com P q = c := ⟨_, rfl⟩
 have hcl := Ni.com_le P q
 have hct := Ni.com_take P q
 have hla := Ni.less_at P q
 rw [hless] at hla
 rw [hc] at hcl hct hla ⊢
 have hcq : c < q.length := by
  rcases Nat.lt_or_ge c q.length with z | z
  ·exact z
  ·rw [if_pos (by omega)] at hla; cases hla
 have hlt : c = P.length \/ (c < P.length /\ P.getD c 0 < q.getD c 0) := by
  rw [if_neg (by omega)] at hla
  by_cases e : c = P.length
  ·exact .inl e
  ·rw [if_neg e] at hla; exact .inr ⟨by omega, of_decide_eq_true hla.symm⟩
 obtain ⟨l1, l2, l3⟩ := Zsp (P := P) h.nv
 obtain ⟨s1, s2, s3, s4, s5⟩ := Zvm h.nb h.len (c := c) r ⟨P.length, nk, v⟩ h.dw hcl.1 (Nat.le_refl _) l1 (by rw [l2]; exact l3) h.ok
 generalize clo P c ⟨P.length, nk, v⟩ r = z at s1 s2 s3 s4 s5
 obtain ⟨f, r'⟩ := z
 simp only at s1 s2 s3 s4 s5 ⊢
 subst s1
 obtain ⟨hx1, hx2⟩ := Zmg hq hcq
 have hopen : ∀ j, ix q f.d <= j -> f.k j = no := fun j hj => s5.hi j (fun hp => by
  rcases hlt with e | ⟨_, e⟩
  ·omega
  ·have := (Zmg h.nb hp).2; omega)
 have hdwq : Dw q.length (f :: r') := ⟨hcq, s2⟩
 have hix : ∀ g ∈ r', ix q g.d = ix P g.d := by
  have hd : ∀ (l : List Fk) (d : Nat), Dw d l -> ∀ g ∈ l, g.d < d := by
   intro l
   induction l with
   | nil => intro d _ g hg; simp at hg
   | cons x l ih =>
    intro d hd g hg
    rcases List.mem_cons.1 hg with e | e
    ·rw [e]; exact hd.1
    ·have := ih x.d hd.2 g e; have := hd.1; omega
  intro g hg
  have := hd r' f.d s2 g hg
  have e := congrArg (fun l => l.getD g.d 0) hct
  simp only [List.getD, List.getElem?_take_of_lt this] at e
  unfold ix
  rw [List.getD, List.getD, e]
 have hok2 : ∀ g ∈ f :: r', Fok q g := fun g hg => by
  rcases List.mem_cons.1 hg with e | e
  ·subst e; exact ⟨s5.k, hopen, s5.two⟩
  ·have := h.ok g (s3 g e)
   exact ⟨this.k, fun j hj => this.hi j (by rw [<- hix g e]; exact hj), this.two⟩
 have hB : Bd q (f :: r') w (upT q q.length (leaf [] w) (f :: r')) := ⟨hq, hl, hw, hdwq, hok2, rfl⟩
 suffices e : upT q q.length (leaf [] w) (f :: r') = put t q w by rw [e] at hB; exact hB
 refine Ok.uniq hB.trOk (Zwd t 64 q w (.inr h.trOk) hq hl hw) (fun s hs => ?_)
 rw [Zs3 t 64 q w s (.inr h.trOk) hq hs, Zfy hq _ _ _ hdwq (Nat.le_refl _) s hs, List.take_of_length_le (Nat.le_refl q.length)]
 have hno : ∀ s, Nb s -> Tr.get (upT q q.length no (f :: r')) s = Tr.get t s := by
  intro s hs
  show Tr.get (upT q f.d (br (upd f.k (ix q f.d) no) f.v) r') s = _
  rw [show upd f.k (ix q f.d) no = f.k from by
   funext j
   by_cases e : j = ix q f.d
   ·rw [e, Zau]; exact (hopen _ (Nat.le_refl _)).symm
   ·rw [Zav _ _ e]]
  rw [<- Zn3 r' f.d _ hct s2, h.t, <- l2, <- s4 s hs, Zfy h.nb r' f.d (br f.k f.v) s2 hcl.1 s hs, Zfy h.nb r' f.d (fkT f) s2 hcl.1 s hs, Zyb f _ (fun i hi => hs i (List.mem_of_mem_drop hi))]
 by_cases e : s = q
 ·subst e
  rw [if_pos rfl, if_pos (List.take_of_length_le (Nat.le_refl _)), List.drop_of_length_le (Nat.le_refl _)]
  simp [Tr.get]
 ·rw [if_neg e, <- hno s hs]
  split
  ·rename_i h1
   have hsl : q.length <= s.length := by have := congrArg List.length h1; rw [List.length_take] at this; omega
   rw [Zfy hq _ _ no hdwq (Nat.le_refl _) s hs, List.take_of_length_le (Nat.le_refl q.length), if_pos h1]
   cases hd : s.drop q.length with
   | nil =>
    refine absurd ?_ e
    rw [<- List.take_append_drop q.length s, h1, hd, List.append_nil]
   | cons x z => simp [Tr.get]
  ·rfl
theorem Bd.root {P : List Int} {r : List Fk} {v : List Int} {t : Tr} (h : Bd P r v t) : (clo P (bot ⟨P.length, nk, v⟩ r) ⟨P.length, nk, v⟩ r).2 = [] /\ und (P.take (bot ⟨P.length, nk, v⟩ r)) (fkT (clo P (bot ⟨P.length, nk, v⟩ r) ⟨P.length, nk, v⟩ r).1) = t := by
 have := Zpi h.nb r ⟨P.length, nk, v⟩ h.dw (Nat.le_refl _)
 rw [h.t]; exact this
end Go.Proofs.YtdkpilgelgjieaaGreat
namespace Go.Proofs.YtdkpilgelgjieaaGreat
open Go.RowKit
open Tr
def rP (k : Nat -> Tr) (i : Nat) : PR := if (k i).isNo then r0 else referP (encT (k i))
def nmK (k : Nat -> Tr) (i : Nat) : List (List Int) := if (k i).isNo then [] else nmd (k i) ++ nm1 (encT (k i))
def nmJ (k : Nat -> Tr) (j : Nat) : List (List Int) := (List.range j).flatMap (nmK k)
theorem Zqt : (fun (va : Option Addr) (vn vc : Nat) (ka : Option Addr) (kn kc : Nat) => Tryz.prog.built 104 [(0, .int .i64 3), (4, .slice ka kn kc), (2, .slice va vn vc)]) = fun va vn vc ka kn kc => some (NV.cells ⟨3, none, 0, 0, va, vn, vc, rz, ka, kn, kc⟩).toArray := by kernel_rfl
theorem Ztt (va : Option Addr) (vn vc : Nat) (ka : Option Addr) (kn kc : Nat) : Tryz.prog.built 104 [(0, .int .i64 3), (4, .slice ka kn kc), (2, .slice va vn vc)] = some (NV.cells ⟨3, none, 0, 0, va, vn, vc, rz, ka, kn, kc⟩).toArray := congrFun (congrFun (congrFun (congrFun (congrFun (congrFun Zqt va) vn) vc) ka) kn) kc
def RFS (t : Tr) : Prop := ∀ {v : World} {gW base : Nat} {vM : Value} {Y Z : Nat -> Prop} {ns : List (List Int)} {val : Value}, TA (KW gW vM Z) v t val -> Wt v gW base vM Y ns -> (∀ b, v.heap.size <= b -> Y b) -> (ns ++ nmd t).length + 1 <= 8800000000000 -> Calls Tryz.prog 164 #[.pointer (some ⟨gW, 0, none⟩), val] v fun e w' => ∃ u, e = .returned u /\ RRf v gW base vM Y ns t u w'
structure BI (w : World) (gW base : Nat) (vN : Value) (X : Nat -> Prop) (ns : List (List Int)) (k : Nat -> Tr) (vs : Nat -> Value) (a : Option Addr) (n c : Nat) (x : List Int) (gB gN gK : Nat) (j : Nat) (vM : Value) (ys : Nat -> RV) (v : World) : Prop where
 hrB : Rw gB v (brc vs (.slice a n c)) 184
 hrN : Rw gN v nz.cells.toArray 104
 hK : Kr gK v ys
 hk : TK (KW gW vM (fun b => b < w.heap.size)) v k vs
 hx : Sk (KW gW vM (fun b => b < w.heap.size)) v a n c x
 hr : ∀ i, i < 16 -> Rf (KW gW vM (fun b => gK < b)) v (ys i) (if i < j then rP k i else r0)
 hW : Wt v gW base vM (fun b => X b /\ b ≠ gN /\ b ≠ gK) (ns ++ nmJ k j)
 hG : Wg w v gW vN vM
theorem Zh7 (K : Nat -> Prop) (w : World) : RefAt K w rz r0 := ⟨rfl, rfl, (Zuu w).2.2.1, rfl, ⟨.inl ⟨rfl, rfl⟩, fun _ => ⟨rfl, rfl⟩, rfl, fun x hx => by cases hx⟩, Nat.zero_le _, fun _ _ e => by cases e⟩
structure FV where
 d : Nat
 ys : Nat -> RV
 a : Option Addr
 n : Nat
 c : Nat
def kc (ys : Nat -> RV) : Nat -> List Value
 | 0 => []
 | n + 1 => kc ys n ++ (ys n).cells
def FV.cells (x : FV) : List Value := .int .i64 ((x.d : Nat) : Int) :: (kc x.ys 16 ++ [.slice x.a x.n x.c])
def FV.Ok (x : FV) : Prop := ∀ i, (x.ys i).d.length = 32
theorem Ze1 {ys : Nat -> RV} (h : ∀ i, (ys i).d.length = 32) : ∀ n, (kc ys n).length = n * 34
 | 0 => rfl
 | n + 1 => by rw [kc, List.length_append, Ze1 h n, RV.len (h n)]; omega
theorem Zst {ys : Nat -> RV} (h : ∀ i, (ys i).d.length = 32) : ∀ n i m v, i < n -> (ys i).cells[m]? = some v -> (kc ys n)[i * 34 + m]? = some v
 | 0, i, m, v, hi, _ => by omega
 | n + 1, i, m, v, hi, hv => by
  have hm : m < 34 := by have := (List.getElem?_eq_some_iff.1 hv).1; rw [RV.len (h i)] at this; exact this
  rw [kc]
  by_cases e : i = n
  ·subst e
   rw [List.getElem?_append_right (by rw [Ze1 h]; omega), Ze1 h, show i * 34 + m - i * 34 = m from by omega]
   exact hv
  ·rw [List.getElem?_append_left (by rw [Ze1 h]; omega)]
   exact Zst h n i m v (by omega) hv
theorem FV.len {x : FV} (h : x.Ok) : x.cells.length = 546 := by simp [FV.cells, Ze1 h]
theorem Zwp (ys : Nat -> RV) : ∀ n, ∀ u ∈ kc ys n, u.oneCell' = true
 | 0, u, hu => by simp [kc] at hu
 | n + 1, u, hu => by
  rw [kc] at hu
  rcases List.mem_append.1 hu with q | q
  ·exact Zwp ys n u q
  ·exact (ys n).one u q
theorem FV.one (x : FV) : ∀ u ∈ x.cells, u.oneCell' = true := by
 intro u hu
 simp only [FV.cells, List.mem_cons, List.mem_append, List.not_mem_nil, or_false] at hu
 rcases hu with rfl | hu | rfl
 ·rfl
 ·exact Zwp _ _ u hu
 ·rfl
theorem Zgy {x : FV} (h : x.Ok) : x.cells.toArray.size = 546 := by rw [List.size_toArray, FV.len h]
theorem Zzz (x : FV) : x.cells.toArray.all (·.oneCell') = true := all_oneCell_toArray (FV.one x)
theorem Zsx : (Tryz.prog.info? 63).map (·.size) = some 546 := by kernel_rfl
theorem Zta {w : World} {g o : Nat} {x : FV} (h : w.rangeAt g o x.cells) : w.cell? ⟨g, o, none⟩ = some (.int .i64 ((x.d : Nat) : Int)) := h 0 _ rfl
theorem Zz0 {w : World} {g o : Nat} {x : FV} (hx : x.Ok) (h : w.rangeAt g o x.cells) {i : Nat} (hi : i < 16) : w.rangeAt g (o + 1 + i * 34) (x.ys i).cells := fun m v hv => by
 have hq := Zst hx 16 i m v hi hv
 have hl := (List.getElem?_eq_some_iff.1 hq).1
 rw [show o + 1 + i * 34 + m = o + (i * 34 + m + 1) from by omega]
 refine h _ v ?_
 rw [FV.cells, List.getElem?_cons_succ, List.getElem?_append_left hl]
 exact hq
theorem Zye {w : World} {g o : Nat} {x : FV} (hx : x.Ok) (h : w.rangeAt g o x.cells) : w.cell? ⟨g, o + 545, none⟩ = some (.slice x.a x.n x.c) := by
 refine h 545 _ ?_
 rw [FV.cells, show (545 : Nat) = 544 + 1 from rfl, List.getElem?_cons_succ, List.getElem?_append_right (by rw [Ze1 hx]; omega), Ze1 hx]
 rfl
structure FkAt (K : Nat -> Prop) (w : World) (x : FV) (f : Fk) : Prop where
 d : x.d = f.d
 l : x.Ok
 k : ∀ i, i < 16 -> RefAt K w (x.ys i) (rP f.k i)
 v : Sk K w x.a x.n x.c f.v
 m : x.n <= 256
theorem FkAt.keep {K L : Nat -> Prop} {w w' : World} {x : FV} {f : Fk} (h : FkAt K w x f) (hk : Keep K L w w') : FkAt L w' x f := ⟨h.d, h.l, fun i hi => (h.k i hi).go hk, h.v.keep hk, h.m⟩
def WyR (w : World) (g : Nat) : List FV -> Prop
 | [] => True
 | x :: r => w.rangeAt g (r.length * 546) x.cells /\ WyR w g r
def FksAt (K : Nat -> Prop) (w : World) : List FV -> List Fk -> Prop
 | [], [] => True
 | x :: r, f :: s => FkAt K w x f /\ FksAt K w r s
 | _, _ => False
theorem FksAt.keep {K L : Nat -> Prop} {w w' : World} (hk : Keep K L w w') : ∀ {r : List FV} {s : List Fk}, FksAt K w r s -> FksAt L w' r s
 | [], [], _ => trivial
 | x :: r, f :: s, h => ⟨h.1.keep hk, FksAt.keep hk h.2⟩
 | [], _ :: _, h => h.elim
 | _ :: _, [], h => h.elim
theorem FksAt.len {K : Nat -> Prop} {w : World} : ∀ {r : List FV} {s : List Fk}, FksAt K w r s -> r.length = s.length
 | [], [], _ => rfl
 | x :: r, f :: s, h => by simp [FksAt.len h.2]
 | [], _ :: _, h => h.elim
 | _ :: _, [], h => h.elim
structure Way (X : Nat -> Prop) (w : World) (g cap : Nat) (rs : List FV) (fs : List Fk) : Prop where
 row : ∃ cur : Array Value, w.heap[g]? = some (.cells cur 63 (0, 0)) /\ cur.size = cap * 546
 nc : rs.length <= cap
 cm : cap <= maxLen
 y : WyR w g rs
 at' : FksAt (fun b => b ≠ g /\ X b) w rs fs
theorem WyR.same {w w' : World} {g : Nat} (e : w'.heap[g]? = w.heap[g]?) : ∀ {rs : List FV}, WyR w g rs -> WyR w' g rs
 | [], _ => trivial
 | x :: r, h => ⟨fun m v hv => (World.cell?_of_block (show w'.heap[g]? = w.heap[g]? from e)).trans (h.1 m v hv), WyR.same e h.2⟩
theorem Way.keep {X : Nat -> Prop} {w w' : World} {g cap : Nat} {rs : List FV} {fs : List Fk} (h : Way X w g cap rs fs) (hk : Keep (fun _ => True) (fun _ => True) w w') : Way X w' g cap rs fs := by
 obtain ⟨cur, h1, h2⟩ := h.row
 have e := (hk g trivial (lt_of_get h1)).1
 exact ⟨⟨cur, e.trans h1, h2⟩, h.nc, h.cm, h.y.same e, h.at'.keep (fun b hb hl => ⟨(hk b trivial hl).1, hb⟩)⟩
theorem Way.go {X : Nat -> Prop} {w w' : World} {g cap : Nat} {rs : List FV} {fs : List Fk} (h : Way X w g cap rs fs) (hb : Below w.heap.size w w') : Way X w' g cap rs fs := h.keep (Zcj hb)
theorem Way.lt {X : Nat -> Prop} {w : World} {g cap : Nat} {rs : List FV} {fs : List Fk} (h : Way X w g cap rs fs) : g < w.heap.size := by
 obtain ⟨cur, h1, h2⟩ := h.row
 exact lt_of_get h1
theorem Way.pop {X : Nat -> Prop} {w : World} {g cap : Nat} {x : FV} {r : List FV} {f : Fk} {s : List Fk} (h : Way X w g cap (x :: r) (f :: s)) : Way X w g cap r s := ⟨h.row, by have := h.nc; simp at this; omega, h.cm, h.y.2, h.at'.2⟩
def flatF : List FV -> List Value
 | [] => []
 | x :: r => flatF r ++ x.cells
theorem Zej : ∀ {rs : List FV}, (∀ x ∈ rs, x.Ok) -> (flatF rs).length = rs.length * 546
 | [], _ => rfl
 | x :: r, h => by rw [flatF, List.length_append, Zej (fun y hy => h y (List.mem_cons_of_mem _ hy)), FV.len (h x (by simp)), List.length_cons]; omega
theorem Zmy {w : World} {g : Nat} : ∀ {rs : List FV}, (∀ x ∈ rs, x.Ok) -> WyR w g rs -> ∀ m v, (flatF rs)[m]? = some v -> w.cell? ⟨g, m, none⟩ = some v
 | [], _, _, m, v, hv => by simp [flatF] at hv
 | x :: r, ho, h, m, v, hv => by
  have hl := Zej (rs := r) (fun y hy => ho y (List.mem_cons_of_mem _ hy))
  rw [flatF] at hv
  by_cases e : m < (flatF r).length
  ·rw [List.getElem?_append_left e] at hv
   exact Zmy (fun y hy => ho y (List.mem_cons_of_mem _ hy)) h.2 m v hv
  ·rw [List.getElem?_append_right (by omega)] at hv
   have := h.1 _ v hv
   rw [show r.length * 546 + (m - (flatF r).length) = m from by omega] at this
   exact this
theorem Zw2 {w : World} {g : Nat} : ∀ {rs : List FV}, (∀ x ∈ rs, x.Ok) -> (∀ m v, (flatF rs)[m]? = some v -> w.cell? ⟨g, m, none⟩ = some v) -> WyR w g rs
 | [], _, _ => trivial
 | x :: r, ho, h => by
  have hl := Zej (rs := r) (fun y hy => ho y (List.mem_cons_of_mem _ hy))
  refine ⟨fun m v hv => ?_, Zw2 (fun y hy => ho y (List.mem_cons_of_mem _ hy)) (fun m v hv => h m v ?_)⟩
  ·refine h _ v ?_
   rw [flatF, List.getElem?_append_right (by omega), show r.length * 546 + m - (flatF r).length = m from by omega]
   exact hv
  ·rw [flatF, List.getElem?_append_left (List.getElem?_eq_some_iff.1 hv).1]; exact hv
theorem FksAt.oks {K : Nat -> Prop} {w : World} : ∀ {r : List FV} {s : List Fk}, FksAt K w r s -> ∀ x ∈ r, x.Ok
 | [], [], _ => fun x hx => by simp at hx
 | y :: r, f :: s, h => fun x hx => by
  rcases List.mem_cons.1 hx with e | e
  ·rw [e]; exact h.1.l
  ·exact FksAt.oks h.2 x e
 | [], _ :: _, h => h.elim
 | _ :: _, [], h => h.elim
theorem Way.owns {X : Nat -> Prop} {w : World} {g cap base : Nat} {rs : List FV} {fs : List Fk} (h : Way X w g cap rs fs) (hb : base <= g) : w.ownsRow base 63 546 (.slice (some ⟨g, 0, none⟩) rs.length cap) rs.length (flatF rs) := by
 obtain ⟨cur, h1, h2⟩ := h.row
 have ho := h.at'.oks
 have hl := Zej ho
 refine ⟨hl, .inr ⟨g, cap, cur, rfl, hb, h1, h.nc, h.cm, h2, ?_⟩⟩
 have hnc := h.nc
 have hle : rs.length * 546 <= cap * 546 := Nat.mul_le_mul_right _ hnc
 refine List.ext_getElem (by rw [List.length_take, hl]; have : cur.toList.length = cur.size := Array.length_toList; show min (rs.length * 546) _ = _; omega) fun m hm1 hm2 => ?_
 have hv : (flatF rs)[m]? = some (flatF rs)[m] := List.getElem?_eq_getElem hm2
 have hc := Zmy ho h.y m _ hv
 rw [cell_of_row _ _ _ _ _ _ h1, <- Array.getElem?_toList] at hc
 rw [List.getElem_take]
 have := List.getElem?_eq_some_iff.1 hc
 exact this.2
theorem Zo0 : ∃ i, Tryz.prog.info? 63 = some i /\ i.zero = some (.agg (FV.cells ⟨0, fun _ => rz, none, 0, 0⟩).toArray) /\ i.size = 546 /\ i.bytes = 1056 := by
 have h : (Tryz.prog.info? 63).map (fun i => (i.zero, i.size, i.bytes)) = some (some (.agg (FV.cells ⟨0, fun _ => rz, none, 0, 0⟩).toArray), 546, 1056) := by kernel_rfl
 cases hq : Tryz.prog.info? 63 with
 | none => rw [hq] at h; simp at h
 | some i => rw [hq] at h; simp at h; exact ⟨i, rfl, h.1, h.2.1, h.2.2⟩
theorem Zzp {ys : Nat -> RV} (h : ∀ i, (ys i).d.length = 32) {j : Nat} (hj : j < 16) : List.take 34 (List.drop (j * 34) (kc ys 16)) = (ys j).cells := by
 refine List.ext_getElem? fun m => ?_
 by_cases hm : m < 34
 ·rw [List.getElem?_take_of_lt hm, List.getElem?_drop]
  have hv : (ys j).cells[m]? = some _ := List.getElem?_eq_getElem (by rw [RV.len (h j)]; exact hm)
  rw [hv]
  exact Zst h 16 j m _ hj hv
 ·rw [List.getElem?_eq_none (by rw [List.length_take]; omega), List.getElem?_eq_none (by rw [RV.len (h j)]; omega)]
theorem Zx5 {ys : Nat -> RV} (h : ∀ i, (ys i).d.length = 32) {j : Nat} (hj : j < 16) (w : World) : (Instr.index 61 (.agg (kc ys 16).toArray) (.int .i64 ((j : Nat) : Int))).run Tryz.prog w = .ok (.agg (ys j).cells.toArray) w := by
 have hs := Zix
 cases hq : Tryz.prog.info? 60 with
 | none => simp [hq] at hs
 | some y =>
  have hy : y.size = 34 := by simpa [hq] using hs
  have hc := Zzp h hj
  simp [Instr.index, asIntOf, run_underlying Tryz.underlying61, run_underlying Tryz.underlying60, sizeOf, typeInfo, hq, hy, part, isAgg, hj, hc]
theorem Zzf {ρ : Operand -> Value} {w : World} {o : Oper} (x y : Operand) {ys : Nat -> RV} (h : ∀ i, (ys i).d.length = 32) {j : Nat} (hj : j < 16) (ho : o.op = .index 61 x y) (hx : ρ x = .agg (kc ys 16).toArray) (hy : ρ y = .int .i64 ((j : Nat) : Int)) : (execOp ρ o).run Tryz.prog w = .ok (.value (.agg (ys j).cells.toArray)) w := by
 unfold execOp
 rw [ho]
 simp only [hx, hy, Sem.run_bind, Zx5 h hj w, Result.andThen_ok, Sem.run_pure]
theorem Zzs : (Tryz.prog.info? 61).map (·.size) = some 544 := by kernel_rfl
theorem f_arr {w : World} {g o : Nat} {x : FV} (hx : x.Ok) (h : w.rangeAt g o x.cells) : w.rangeAt g (o + 1) (kc x.ys 16) := fun m v hv => by
 rw [show o + 1 + m = o + (m + 1) from by omega]
 refine h _ v ?_
 rw [FV.cells, List.getElem?_cons_succ, List.getElem?_append_left (List.getElem?_eq_some_iff.1 hv).1]
 exact hv
theorem Zdg {w : World} {g : Nat} {cs : List Value} {T : TypeId} (h : Rw g w cs.toArray T) : w.rangeAt g 0 cs := fun j v hj => by
 rw [cell_of_row _ _ _ _ _ _ h, Nat.zero_add, List.getElem?_toArray]; exact hj
theorem Zrq (b : List Int) : (referP b).k ≠ 0 := by unfold referP; split <;> simp
theorem rP_no {k : Nat -> Tr} {i : Nat} : ((rP k i).k = 0) ↔ (k i).isNo = true := by
 unfold rP
 cases (k i).isNo with
 | true => simp [r0]
 | false => simp [Zrq]
theorem r_at0 (y : RV) : y.cells.toArray[0]? = some (.int .i64 y.k) := by simp [RV.cells]
set_option maxHeartbeats 2000000 in
theorem Zr2 {K : Nat -> Prop} {w : World} {x : FV} {f : Fk} (hx : FkAt K w x f) :
  Calls Tryz.prog 59 #[.agg x.cells.toArray] w fun e w' => ∃ u, e = .returned u /\ (fun u w' => u = .bool (!allNo f.k) /\ Bl w w') u w' := by
 have hB := Bl.refl w
 have hxl := hx.l
 refine Za3 Tryz.func59 rfl 14 rfl ?_
 show CW _ _ _ _ _ _ _ [(0, .agg x.cells.toArray)] _
 refine Zac <| Zaa <| Zb7 1 x.cells.toArray 63 (fun _ => by kernel_rfl) (fun _ => by kernel_rfl) ?_
 intro w1 gF hnF
 replace hB := hB.go hnF.below
 have hrF : Rw gF w1 x.cells.toArray 63 := hnF.row
 refine rp 2 (.bool false) <| Zad <| Zab <| Zac <| Zac <| Zaa <| rp 5 (.pointer (some ⟨gF, 1, none⟩)) <| rv 6 (.agg (kc x.ys 16).toArray) (fun _ => Zl7 61 _ gF 1 (kc x.ys 16) _ rfl (by kernel_rfl) (f_arr hxl (Zdg hrF)) Tryz.underlying61 rfl (by rw [Zzs, Ze1 hxl])) <| rp 7 (.int .i64 0) <| Zad <| Zab <| Zay ?_
 refine Zdj (X := Nat) (fun j => [(7, .int .i64 ((j : Nat) : Int)), (6, .agg (kc x.ys 16).toArray)]) (fun j v => Bl w v /\ j <= 16 /\ ∀ i, i < j -> f.k i = no) (fun j => 16 - j) 0 (by exact ⟨fun _ => by kernel_rfl, ⟨fun _ => by kernel_rfl, trivial⟩⟩) ⟨hB, Nat.zero_le _, fun i hi => by omega⟩ ?_
 clear hB
 rintro j v ⟨hB, hj, hI⟩
 by_cases hlt : j < 16
 ·skip
  refine Zac <| Zaa <| rv 8 (.bool true) (fun _ => Zai (v := .bool (decide (((j : Nat) : Int) < (16 : Int)))) (by kernel_rfl) (congrArg Value.bool (decide_eq_true (by omega)))) <| Zad <| Zab <| Zac <| Zan (fun _ => by kernel_rfl) <| Zaz <| Zab <| Zac <| Zay <| Zac ?_
  refine Zaa <| rv 9 (.agg (x.ys j).cells.toArray) (fun _ => Zzf _ _ hxl hlt rfl (by kernel_rfl) (by kernel_rfl)) ?_
  have hz0 := hB.size
  refine Zb7 4 rz.cells.toArray 60 (fun _ => by kernel_rfl) (fun _ => by kernel_rfl) ?_
  intro w2 gR hnR
  have hgR := hnR.hg
  replace hB := hB.go hnR.below
  refine Zcx gR (x.ys j).cells.toArray (fun _ => by kernel_rfl) (fun _ => Zbf 60 _ _ _ _ _ _ rfl (by kernel_rfl) (by kernel_rfl) hnR.row (by rw [Zix, Zoj (hxl j)]) (by rw [Zoj (hxl j)]; rfl) (Zwc _)) ?_
  intro w3 hpR
  have hrR : Rw gR w3 (x.ys j).cells.toArray 60 := hpR.row hnR.row
  replace hB : Bl w w3 := hpR.below hB (by omega) hB.size
  refine Zad <| Zab <| Zac <| Zaa <| rp 10 (.pointer (some ⟨gR, 0, none⟩)) <| rv 11 (.int .i64 (x.ys j).k) (fun _ => Zam 3 _ ⟨gR, 0, none⟩ _ _ rfl (by kernel_rfl) (by rw [cell_of_row _ _ _ _ _ _ hrR]; exact r_at0 _) Tryz.underlying3 rfl) <| rp 12 (.bool (!(((x.ys j).k : Int) == (0 : Int)))) <| Zad <| Zab ?_
  have hkj := (hx.k j hlt).1
  cases hno : (f.k j).isNo with
  | true =>
   rw [show (!(((x.ys j).k : Int) == (0 : Int))) = false from by rw [hkj]; rw [rP_no.2 hno]; rfl]
   refine Zao (fun _ => by kernel_rfl) <| Zaz <| Zbb <| Zab <| Zaa <| rv 13 (.int .i64 (((j : Nat) : Int) + 1)) (fun _ => Zai (v := .int .i64 (IntKind.i64.wrap (((j : Nat) : Int) + 1))) (by kernel_rfl) (congrArg (Value.int .i64) (Zb6 (by omega) (by omega)))) <| rp 7 (.int .i64 (((j : Nat) : Int) + 1)) <| Zad ?_
   exact Zbi (E := fun j => [(7, .int .i64 ((j : Nat) : Int)), (6, .agg (kc x.ys 16).toArray)]) (R := fun j v => Bl w v /\ j <= 16 /\ ∀ i, i < j -> f.k i = no) (μ := fun j => 16 - j) (x := j) (j + 1) (by exact ⟨fun _ => by kernel_rfl, ⟨fun _ => by kernel_rfl, trivial⟩⟩) ⟨hB, by omega, fun i hi => (Nat.lt_succ_iff_lt_or_eq.1 hi).elim (hI i) (fun e => by rw [e]; exact isNo_iff.1 hno)⟩ (by show 16 - (j + 1) < 16 - j; omega)
  | false =>
   rw [show (!(((x.ys j).k : Int) == (0 : Int))) = true from by rw [hkj]; simp [rP_no, hno]]
   refine Zan (fun _ => by kernel_rfl) <| Zac <| Zaa <| rp 2 (.bool true) <| Zad <| Zab <| Za5 <| Zbc <| Zap <| Zap <| Zbc <| Zap ?_
   exact Zaf (.bool true) (fun _ => by kernel_rfl) ⟨_, rfl, by rw [show allNo f.k = false from by cases hq : allNo f.k with | false => rfl | true => exact absurd (isNo_iff.2 (allNo_iff.1 hq j hlt)) (by rw [hno]; simp)]; rfl, hB⟩
 obtain rfl : j = 16 := by omega
 refine Zac <| Zaa <| rv 8 (.bool false) (fun _ => Zai (v := .bool (decide (((16 : Nat) : Int) < (16 : Int)))) (by kernel_rfl) (congrArg Value.bool (rfl))) <| Zad <| Zab <| Zac <| Zao (fun _ => by kernel_rfl) <| Zd5 <| Zat <| Zat <| Zbj <| Zab ?_
 refine Zac <| Zaa <| rp 2 (.bool false) <| Zad <| Zab <| Za5 ?_
 exact Zaf (.bool false) (fun _ => by kernel_rfl) ⟨_, rfl, by rw [allNo_iff.2 hI]; rfl, hB⟩
theorem fr_sk {w : World} {base : Nat} {a : Option Addr} {m c : Nat} {bs : List Int} (h : Ag w a m c bs) (hf : Fr base w a m) : Sk (fun b => base <= b) w a m c bs := ⟨h, fun x hx h0 => by
 obtain ⟨g, off, e, _⟩ := ag_head h h0
 rw [e] at hx; cases hx
 exact (hf g off e h0).1⟩
theorem _root_.Go.Proofs.YtdkpilgelgjieaaGreat.RefAt.mono {K K' : Nat -> Prop} {w : World} {y : RV} {r : PR} (h : RefAt K w y r) (hK : ∀ b, K b -> K' b) : RefAt K' w y r := h.go (fun b hb _ => ⟨rfl, hK b hb⟩)
theorem Zly (K : Nat -> Prop) (w : World) : RefAt K w rz r0 := Zh7 K w
theorem Zps (K : Nat -> Prop) (w : World) : AgK K w none 0 0 [] := ⟨⟨.inl ⟨rfl, rfl⟩, fun _ => ⟨rfl, rfl⟩, rfl, fun x hx => by cases hx⟩, Nat.zero_le _, fun _ _ e => by cases e⟩
theorem Zx2 {K : Nat -> Prop} {w : World} {gF : Nat} {x : FV} {k : Nat -> Tr} {v : List Int} (hx : x.Ok) (h : w.rangeAt gF 0 x.cells) (hr : ∀ i, i < 16 -> RefAt K w (x.ys i) (rP k i)) (hK : K gF) : KidsAt K w (some ⟨gF, 0 + 1, none⟩) (nodeP (br k v)).ks := by
 intro j r hj
 have hl : j < 16 := by have := (List.getElem?_eq_some_iff.1 hj).1; simpa [nodeP] using this
 have e : r = rP k j := by
  simp only [nodeP] at hj
  rw [List.getElem?_map, List.getElem?_range hl] at hj
  simp at hj
  rw [<- hj]; rfl
 exact ⟨gF, 0 + 1, x.ys j, rfl, hK, Zz0 hx h hl, by rw [e]; exact hr j hl⟩
theorem Zxq {ρ : Operand -> Value} {w : World} {o : Oper} {x : Operand} {g o0 : Nat} (ho : o.op = .slice 61 x none none none) (hx : ρ x = .pointer (some ⟨g, o0, none⟩)) : (execOp ρ o).run Tryz.prog w = .ok (.value (.slice (some ⟨g, o0, none⟩) 16 16)) w := by
 have hs := Zix
 cases hq : Tryz.prog.info? 60 with
 | none => simp [hq] at hs
 | some y =>
  unfold execOp
  rw [ho]
  simp [hx, Instr.sliceAt, run_underlying Tryz.underlying61, Instr.sureAddr, Instr.sliceBounds, sizeOf, typeInfo, hq, Zax, Result.andThen]
set_option maxHeartbeats 2000000 in
theorem Zfg {K : Nat -> Prop} {w : World} {y : NV} {n : PN} (hy : NodeAt K w y n) :
  Calls Tryz.prog 60 #[.agg y.cells.toArray] w fun e w' => ∃ u, e = .returned u /\ (fun u w' => (∃ a m c, u = .slice a m c /\ m <= 65540 /\ Sk (fun b => w.heap.size <= b) w' a m c (NEP n).1) /\ Bl w w') u w' := by
 have hB := Bl.refl w
 have hyl := hy.c.len
 refine Za3 Tryz.func60 rfl 11 rfl ?_
 show CW _ _ _ _ _ _ _ [(0, .agg y.cells.toArray)] _
 refine Zac <| Zaa <| Zb7 1 y.cells.toArray 104 (fun _ => by kernel_rfl) (fun _ => by kernel_rfl) ?_
 intro w1 gN hnN
 replace hB := hB.go hnN.below
 have hrN : Rw gN w1 y.cells.toArray 104 := hnN.row
 refine rp 2 (.slice none 0 0) <| Zad <| Zab <| Zac <| Zaa <| rv 6 (.agg y.cells.toArray) (fun _ => Zed 104 _ _ _ _ _ _ rfl (by kernel_rfl) hrN Tryz.underlying104 rfl (by rw [Zge, Zft hyl])) <| Za1 7 66 #[.agg y.cells.toArray] (fun _ => by kernel_rfl) (fun _ => by kernel_rfl) (R := fun u w' => (∃ a m c, u = .tuple #[.slice a m c, .int .i64 ((NEP n).2 : Nat)] /\ Sk (fun b => w1.heap.size <= b) w' a m c (NEP n).1) /\ Bl w1 w') ((Znk K y n w1 (hy.go (Zcj hnN.below))).mono (fun e w' ⟨⟨a, m, c, h1, h2, h3⟩, h4⟩ => ⟨_, h1, ⟨a, m, c, rfl, fr_sk h2 h3⟩, h4⟩)) ?_
 rintro _ u1 ⟨⟨a1, m1, c1, rfl, hs1⟩, hb1⟩
 replace hB := hB.go hb1
 refine rp 5 (.tuple #[.slice a1 m1 c1, .int .i64 ((NEP n).2 : Nat)]) <| rp 8 (.slice a1 m1 c1) <| rp 9 (.int .i64 ((NEP n).2 : Nat)) <| rp 3 (.slice a1 m1 c1) <| rp 4 (.int .i64 ((NEP n).2 : Nat)) <| Zad <| Zab <| Zac <| Zaa <| rp 10 (.slice a1 m1 c1) <| rp 2 (.slice a1 m1 c1) <| Zad ?_
 refine Zab <| Za5 ?_
 exact Zaf (.slice a1 m1 c1) (fun _ => by kernel_rfl) ⟨_, rfl, ⟨a1, m1, c1, rfl, by rw [<- hs1.len]; exact Znj hy.okN, hs1.mono (fun b hb => by have := hnN.below.size; omega)⟩, hB⟩
set_option maxHeartbeats 4000000 in
theorem Zg1 {K : Nat -> Prop} {w : World} {x : FV} {f : Fk} (hx : FkAt K w x f) {K' : Nat -> Prop} {a : Option Addr} {n c : Nat} {p : List Int} (hp : Sk K' w a n c p) (hn : n <= 1000) :
  Calls Tryz.prog 35 #[.agg x.cells.toArray, .slice a n c] w fun e w' => ∃ u, e = .returned u /\ (fun u w' => (∃ a m c, u = .slice a m c /\ m <= 65540 /\ Sk (fun b => w.heap.size <= b) w' a m c (encT (und p (fkT f)))) /\ Bl w w') u w' := by
 have hB := Bl.refl w
 have hxl := hx.l
 have lp := hp.len
 have lv := hx.v.len
 have hvm := hx.m
 refine Za3 Tryz.func35 rfl 29 rfl ?_
 show CW _ _ _ _ _ _ _ [(0, .agg x.cells.toArray), (1, .slice a n c)] _
 refine Zac <| Zaa <| Zb7 2 x.cells.toArray 63 (fun _ => by kernel_rfl) (fun _ => by kernel_rfl) ?_
 intro w1 gF hnF
 replace hB := hB.go hnF.below
 have hrF : Rw gF w1 x.cells.toArray 63 := hnF.row
 replace hx := hx.keep (Zcj hnF.below)
 replace hp := hp.go hnF.below
 refine rp 4 (.slice none 0 0) <| Zad <| Zab <| Zac <| Zac <| Zaa <| rv 6 (.agg x.cells.toArray) (fun _ => Zed 63 _ _ _ _ _ _ rfl (by kernel_rfl) hrF Tryz.underlying63 rfl (by rw [Zsx, Zgy hxl])) <| Za1 7 59 #[.agg x.cells.toArray] (fun _ => by kernel_rfl) (fun _ => by kernel_rfl) (R := fun u w' => u = .bool (!allNo f.k) /\ Bl w1 w') (Zr2 hx) ?_
 rintro _ u1 ⟨rfl, hb1⟩
 replace hB := hB.go hb1
 replace hp := hp.go hb1
 replace hx := hx.keep (Zcj hb1)
 replace hrF := hrF.go hb1
 refine rp 8 (.bool (!(!allNo f.k))) <| Zad <| Zab ?_
 cases hno : allNo f.k with
 | true =>
  show CW _ _ _ _ _ _ _ [(8, .bool true), (7, .bool false), (6, .agg x.cells.toArray), (4, .slice none 0 0), (2, .pointer (some ⟨gF, 0, none⟩)), (0, .agg x.cells.toArray), (1, .slice a n c)] _
  refine Zan (fun _ => by kernel_rfl) <| Zac <| Zaa <| rp 9 (.slice a n c) <| rp 10 (.pointer (some ⟨gF, 545, none⟩)) <| rv 11 (.slice x.a x.n x.c) (fun _ => Zam 32 _ ⟨gF, 545, none⟩ _ _ rfl (by kernel_rfl) (by have := Zye hxl (Zdg hrF); rwa [Nat.zero_add] at this) Tryz.underlying32 rfl) <| rv 12 (.agg (NV.cells ⟨1, a, n, c, x.a, x.n, x.c, rz, none, 0, 0⟩).toArray) (fun _ => Zcr 104 _ [(0, .int .i64 1), (1, .slice a n c), (2, .slice x.a x.n x.c)] _ rfl (by kernel_rfl) (Zho _ _ _ _ _ _)) ?_
  have hNleaf : NodeAt (fun _ => True) u1 ⟨1, a, n, c, x.a, x.n, x.c, rz, none, 0, 0⟩ (⟨1, p, f.v, r0, []⟩) := ⟨rfl, hp.agk (by omega), hx.v.agk (by omega), Zly _ _, ⟨rfl, Nat.le_refl _, Nat.zero_le _, Nat.zero_le _, fun _ => ⟨rfl, rfl⟩⟩, fun j r hr => by simp at hr⟩
  refine Za1 13 60 #[.agg (NV.cells ⟨1, a, n, c, x.a, x.n, x.c, rz, none, 0, 0⟩).toArray] (fun _ => by kernel_rfl) (fun _ => by kernel_rfl) (R := fun u w' => (∃ a m c, u = .slice a m c /\ m <= 65540 /\ Sk (fun b => (u1).heap.size <= b) w' a m c (NEP (⟨1, p, f.v, r0, []⟩)).1) /\ Bl (u1) w') (Zfg hNleaf) ?_
  rintro _ uleaf ⟨⟨aleaf, mleaf, cleaf, rfl, hmleaf, hsleaf⟩, hbleaf⟩
  have hszleaf := hB.size
  replace hB := hB.go hbleaf
  replace hp := hp.go hbleaf
  replace hx := hx.keep (Zcj hbleaf)
  replace hrF := hrF.go hbleaf
  refine rp 4 (.slice aleaf mleaf cleaf) <| Zad <| Zab <| Za5 <| Zap ?_
  exact Zaf (.slice aleaf mleaf cleaf) (fun _ => by kernel_rfl) ⟨_, rfl, ⟨_, _, _, rfl, hmleaf, by rw [show encT (und p (fkT f)) = (NEP ⟨1, p, f.v, r0, []⟩).1 from by unfold fkT; rw [if_pos hno]; simp [und, encT]]; exact hsleaf.mono (fun b hb => by omega)⟩, hB⟩
 | false =>
  show CW _ _ _ _ _ _ _ [(8, .bool false), (7, .bool true), (6, .agg x.cells.toArray), (4, .slice none 0 0), (2, .pointer (some ⟨gF, 0, none⟩)), (0, .agg x.cells.toArray), (1, .slice a n c)] _
  refine Zao (fun _ => by kernel_rfl) <| Zaz <| Zab <| Zac <| Zcb (fun v => Rw gF v x.cells.toArray 63) (by kernel_rfl) (hrF.go (Below.refl _ _).drew) ?_
  replace hB := hB.drew
  replace hp := hp.drew
  replace hx := hx.keep (Zcj (Below.refl _ _).drew)
  replace hrF := hrF.go (Below.refl _ _).drew
  refine dt 0 14 (.pointer (some ⟨gF, 1, none⟩)) (fun v hv _ => by kernel_rfl) hrF <| dt 1 15 (.slice (some ⟨gF, 0 + 1, none⟩) 16 16) (fun v hv _ => Zxq rfl (by kernel_rfl)) hrF <| dt 2 16 (.pointer (some ⟨gF, 545, none⟩)) (fun v hv _ => by kernel_rfl) hrF <| dt 3 17 (.slice x.a x.n x.c) (fun v hv _ => Zam 32 _ ⟨gF, 545, none⟩ _ _ rfl (by kernel_rfl) (by have := Zye hxl (Zdg hv); rwa [Nat.zero_add] at this) Tryz.underlying32 rfl) hrF <| dt 4 18 (.agg (NV.cells ⟨3, none, 0, 0, x.a, x.n, x.c, rz, some ⟨gF, 0 + 1, none⟩, 16, 16⟩).toArray) (fun v hv _ => Zcr 104 _ [(0, .int .i64 3), (4, .slice (some ⟨gF, 0 + 1, none⟩) 16 16), (2, .slice x.a x.n x.c)] _ rfl (by kernel_rfl) (Ztt _ _ _ _ _ _)) hrF <| Zah [5] (by kernel_rfl) (by simp) ?_
  have hNbr : NodeAt (fun _ => True) u1.drew ⟨3, none, 0, 0, x.a, x.n, x.c, rz, some ⟨gF, 0 + 1, none⟩, 16, 16⟩ (nodeP (br f.k f.v)) := ⟨rfl, Zps _ _, hx.v.agk (by omega), Zly _ _, ⟨(by simp [nodeP]), Nat.le_refl _, (by show 16 <= maxLen; unfold maxLen; omega), (by show 16 <= _; omega), fun e => by cases e⟩, Zx2 hxl (Zdg hrF) (fun i hi => (hx.k i hi).mono (fun _ _ => trivial)) trivial⟩
  refine Zba 5 19 60 #[.agg (NV.cells ⟨3, none, 0, 0, x.a, x.n, x.c, rz, some ⟨gF, 0 + 1, none⟩, 16, 16⟩).toArray] rfl (fun _ => by kernel_rfl) (fun _ => by kernel_rfl) (R := fun u w' => (∃ a m c, u = .slice a m c /\ m <= 65540 /\ Sk (fun b => (u1.drew).heap.size <= b) w' a m c (NEP (nodeP (br f.k f.v))).1) /\ Bl (u1.drew) w') (Zfg hNbr) (fun u w' h => hrF.go h.2) ?_ Zar
  rintro _ ubr ⟨⟨abr, mbr, cbr, rfl, hmbr, hsbr⟩, hbbr⟩
  have hszbr := hB.size
  replace hB := hB.go hbbr
  replace hp := hp.go hbbr
  replace hx := hx.keep (Zcj hbbr)
  replace hrF := hrF.go hbbr
  refine dt 6 5 (.slice abr mbr cbr) (fun v hv _ => by kernel_rfl) hrF <| Zbn (by kernel_rfl) <| Zab <| Zac <| Zac <| Zaa <| rp 20 (.slice a n c) <| rp 21 (.int .i64 n) <| rp 22 (.bool ((n : Int) == (0 : Int))) <| Zad <| Zab ?_
  by_cases hn0 : n = 0
  ·skip
   rw [show ((n : Int) == (0 : Int)) = true from beq_iff_eq.2 (by omega)]
   refine Zan (fun _ => by kernel_rfl) <| Zac <| Zaa <| rp 23 (.slice abr mbr cbr) <| rp 4 (.slice abr mbr cbr) <| Zad <| Zab <| Za5 <| Zap ?_
   exact Zaf (.slice abr mbr cbr) (fun _ => by kernel_rfl) ⟨_, rfl, ⟨_, _, _, rfl, hmbr, by rw [show encT (und p (fkT f)) = (NEP (nodeP (br f.k f.v))).1 from by rw [List.eq_nil_of_length_eq_zero (show p.length = 0 by omega)]; unfold fkT; rw [if_neg (by rw [hno]; simp)]; rfl]; exact hsbr.mono (fun b hb => by omega)⟩, hB⟩
  ·skip
   rw [show ((n : Int) == (0 : Int)) = false from beq_eq_false_iff_ne.2 (by omega)]
   refine Zao (fun _ => by kernel_rfl) <| Zaz <| Zab <| Zac <| Zaa <| rp 24 (.slice a n c) <| rp 25 (.slice abr mbr cbr) ?_
   have hlb := hsbr.len
   have hlb2 := Znj hNbr.okN
   refine Za1 26 52 #[.slice abr mbr cbr] (fun _ => by kernel_rfl) (fun _ => by kernel_rfl) (R := fun u w' => (∃ y : RV, u = .agg y.cells.toArray /\ RefAt (fun _ => True) w' y (referP (encT (br f.k f.v)))) /\ Bl (ubr) w') ((Zlx abr mbr cbr _ _ hsbr.ag (by omega)).mono (fun e w' ⟨⟨y, h1, h2⟩, h3⟩ => ⟨_, h1, ⟨y, rfl, h2.mono (fun _ _ => trivial)⟩, h3⟩)) ?_
   rintro _ u4 ⟨⟨yr, rfl, hyr⟩, hb4⟩
   replace hB := hB.go hb4
   replace hp := hp.go hb4
   replace hx := hx.keep (Zcj hb4)
   replace hrF := hrF.go hb4
   replace hsbr := hsbr.go hb4
   refine rv 27 (.agg (NV.cells ⟨2, a, n, c, none, 0, 0, yr, none, 0, 0⟩).toArray) (fun _ => Zcr 104 _ [(0, .int .i64 2), (1, .slice a n c), (3, .agg yr.cells.toArray)] _ rfl (by kernel_rfl) (Zf4 _ _ _ _ hyr.len)) ?_
   have hNext : NodeAt (fun _ => True) u4 ⟨2, a, n, c, none, 0, 0, yr, none, 0, 0⟩ (⟨2, p, [], referP (encT (br f.k f.v)), []⟩) := ⟨rfl, hp.agk (by omega), Zps _ _, hyr, ⟨rfl, Nat.le_refl _, Nat.zero_le _, Nat.zero_le _, fun _ => ⟨rfl, rfl⟩⟩, fun j r hr => by simp at hr⟩
   refine Za1 28 60 #[.agg (NV.cells ⟨2, a, n, c, none, 0, 0, yr, none, 0, 0⟩).toArray] (fun _ => by kernel_rfl) (fun _ => by kernel_rfl) (R := fun u w' => (∃ a m c, u = .slice a m c /\ m <= 65540 /\ Sk (fun b => (u4).heap.size <= b) w' a m c (NEP (⟨2, p, [], referP (encT (br f.k f.v)), []⟩)).1) /\ Bl (u4) w') (Zfg hNext) ?_
   rintro _ uext ⟨⟨aext, mext, cext, rfl, hmext, hsext⟩, hbext⟩
   have hszext := hB.size
   replace hB := hB.go hbext
   replace hp := hp.go hbext
   replace hx := hx.keep (Zcj hbext)
   replace hrF := hrF.go hbext
   replace hsbr := hsbr.go hbext
   refine rp 4 (.slice aext mext cext) <| Zad <| Zab <| Za5 ?_
   exact Zaf (.slice aext mext cext) (fun _ => by kernel_rfl) ⟨_, rfl, ⟨_, _, _, rfl, hmext, by rw [show encT (und p (fkT f)) = (NEP ⟨2, p, [], referP (encT (br f.k f.v)), []⟩).1 from by unfold fkT; rw [if_neg (by rw [hno]; simp)]; simp only [und]; rw [if_neg (fun e => hn0 (by rw [<- lp, e]; rfl))]; rfl]; exact hsext.mono (fun b hb => by omega)⟩, hB⟩
end Go.Proofs.YtdkpilgelgjieaaGreat

/- A row of one's own of pairs of slices that grows: it has no cells but slices. -/
import Derived.Test.YtefhepcplempkaaGreatG18
import Derived.Test.YtefhepcplempkaaGreatG17
import Derived.Test.YtefhepcplempkaaGreatG03
import Derived.Lib.Bytealg
import Derived.Laws.Externs
import Derived.Lib.Bytes
import Derived.Test.YtefhepcplempkaaGreatG00
import Derived.Test.YtefhepcplempkaaGreatG12
import Derived.Test.YtefhepcplempkaaGreatG14
set_option linter.unusedVariables false
set_option maxRecDepth 100000
namespace Go.Proofs.YtefhepcplempkaaGreat
open Go.RowKit
open Tr
def isS (u : Value) : Prop := ∃ a n c, u = .slice a n c
def SlB (w : World) (v : Value) : Prop := ∀ k cur T fr, v.ownBlock = some k -> w.heap[k]? = some (.cells cur T fr) -> ∀ u ∈ cur.toList, isS u
theorem Znb {cs : Array Value} (h : ∀ u ∈ cs.toList, isS u) : ¬ Pr cs := by
 rintro ⟨j, v, h1, h2⟩
 rw [<- Array.getElem?_toList] at h1
 obtain ⟨a, n, c, rfl⟩ := h v (List.mem_of_getElem? h1)
 exact h2 a n c rfl
theorem Zs8 (n : Nat) : ∀ u ∈ (Builtin.zeroCells #[.slice none 0 0, .slice none 0 0] n).toList, isS u := by
 intro u hu
 unfold Builtin.zeroCells at hu
 simp only [Array.toList_map, List.mem_map] at hu
 obtain ⟨i, _, rfl⟩ := hu
 rcases (show i % 2 = 0 \/ i % 2 = 1 by omega) with e | e
 ·exact ⟨none, 0, 0, by simp [e]⟩
 ·exact ⟨none, 0, 0, by simp [e]⟩
theorem SlB.go {w w' : World} {v : Value} (h : SlB w v) (hb : Below w.heap.size w w') (ho : ∀ k, v.ownBlock = some k -> k < w.heap.size) : SlB w' v := fun k cur T fr hk hh => h k cur T fr hk (by rw [<- hb.block k (ho k hk)]; exact hh)
theorem SlB.nil (w : World) : SlB w (.slice none 0 0) := fun k cur T fr hk => by simp [Value.ownBlock] at hk
theorem Z0w {P : Program} {w : World} {base : Nat} {t ty e : TypeId} {i : TypeInfo} (ht : P.underlying t = some (.slice e)) (hi : P.info? e = some i) (hz : i.zero = some (.agg #[.slice none 0 0, .slice none 0 0])) (hsize : i.size = 2) (hby : i.bytes = 48)
  {v : Value} {n : Nat} {xs : List Value} (hown : w.ownsRow base e 2 v n xs) (hs : SlB w v) {a : Addr} {m c : Nat} {news : List Value} (hl : news.length = m * 2) (hnews : ∀ j u, news[j]? = some u -> w.cell? (a.add j) = some u) (hsn : ∀ u ∈ news, isS u) (hm : 0 < m)
  (h63 : n + m <= maxLen) (hbytes : (n + m) * 48 <= 140737488355328) {v' : Value} {w' : World} (hr : (Builtin.append_ #[t, t] ty #[v, .slice (some a) m c]).run P w = .ok v' w') : SlB w' v' := by
 have h1 : ∀ u ∈ news, u.oneCell' = true := fun u hu => by obtain ⟨_, _, _, rfl⟩ := hsn u hu; rfl
 have hsmall : n + m <= 9223372036854775807 := by simp only [maxLen] at h63; omega
 have hxs : ∀ {g cap : Nat}, v = .slice (some ⟨g, 0, none⟩) n cap -> ∀ u ∈ xs, isS u := by
  intro g cap ev u hu
  rcases hown.2 with ⟨rfl, rfl⟩ | ⟨g', cap', cur, rfl, hbg, hg, hnc, hcm, hcs, htake⟩
  ·cases ev
  ·exact hs g' cur e (0, 0) rfl hg u (by rw [<- htake] at hu; exact List.mem_of_mem_take hu)
 have hnew : ∀ {ys : List Value} {q : Nat}, (∀ u ∈ ys, isS u) -> ∀ u ∈ (ys.toArray ++ news.toArray ++ Builtin.zeroCells #[.slice none 0 0, .slice none 0 0] q).toList, isS u := by
  intro ys q hy u hu
  simp only [Array.toList_append, List.mem_append] at hu
  rcases hu with (hu | hu) | hu
  ·exact hy u hu
  ·exact hsn u hu
  ·exact Zs8 _ u hu
 have hal : ∀ {cs : Array Value} {q r : Nat}, (∀ u ∈ cs.toList, isS u) -> SlB (w.drew.alloc (.cells cs e)) (.slice (some ⟨w.heap.size, 0, none⟩) q r) := by
  intro cs q r hcs k cur T fr hk hh
  simp only [Value.ownBlock, Option.some.injEq] at hk
  subst hk
  rw [show w.heap.size = w.drew.heap.size from rfl, heap_alloc_new w.drew] at hh
  cases hh
  exact hcs
 rcases id hown.2 with ⟨rfl, rfl⟩ | ⟨g, cap, cur, rfl, hbg, hg, hnc, hcm, hcs, htake⟩
 ·have hq := run_append_nil (P := P) w t ty e i _ ht hi hz a m c news (by rw [hsize]; exact hl) hnews hm (by omega) (by rw [hby]; omega)
  rw [hq] at hr
  cases hr
  refine hal ?_
  have := hnew (ys := []) (q := grownCap w m 0 e - m) (fun u hu => by cases hu)
  rw [show ([] : List Value).toArray = #[] from rfl, Array.empty_append] at this
  exact this
 ·by_cases hroom : n + m <= cap
  ·have hfit : n * i.size + news.length <= cur.size := by rw [hl, hcs, hsize, <- Nat.add_mul]; exact Nat.mul_le_mul_right _ hroom
   have hq := run_append_room (P := P) w t ty e i ht hi g n cap cur hg a m c news (by rw [hsize]; exact hl) hnews h1 hroom hfit
   rw [hq] at hr
   cases hr
   intro k cur' T fr hk hh
   simp only [Value.ownBlock, Option.some.injEq] at hk
   subst hk
   rw [setRow_heap w g cur _ e _ hg] at hh
   cases hh
   intro u hu
   have hcu := hs g cur e (0, 0) rfl hg
   simp only [List.mem_append] at hu
   rcases hu with (hu | hu) | hu
   ·exact hcu u (List.mem_of_mem_take hu)
   ·exact hsn u hu
   ·exact hcu u (List.mem_of_mem_drop hu)
  ·have holds : ∀ j u, xs[j]? = some u -> w.cell? ((⟨g, 0, none⟩ : Addr).add j) = some u := hown.cells (g := g) rfl
   have hq := run_append_grow (P := P) w t ty e i _ ht hi hz ⟨g, 0, none⟩ n cap xs (by rw [hsize]; exact hown.1) holds a m c news (by rw [hsize]; exact hl) hnews (by omega) (by omega) (by rw [hby]; exact growslice_fits (by omega) hbytes)
   rw [hq] at hr
   cases hr
   exact hal (hnew (hxs rfl))
section
variable {r : Option Nat} {m : Nat} {P : Program} {ds : List Deferred} {n : Nat} {Q : Exit → Act → World → Prop} {env : Env} {w : World}
end
theorem Sk.nsl {K : Nat -> Prop} {w : World} {v : Value} {a : Option Addr} {n c : Nat} {bs : List Int} (h : Sk K w a n c bs) (hs : SlB w v) : Sk (fun b => K b /\ v.ownBlock ≠ some b) w a n c bs := ⟨h.ag, fun x hx hn => ⟨h.k x hx hn, fun e => by
 rcases h.ag.i with ⟨h1, _⟩ | ⟨gb, off, h1, h2, h3, h4, h5, h7⟩
 ·omega
 ·rw [h1] at hx; cases hx
  obtain ⟨cs, T, fr, e1, e2⟩ := Zfb (h7 0 (by have := h.len; omega))
  refine Znb (hs gb cs T fr e e1) ⟨_, _, e2, fun _ _ _ => by simp⟩⟩⟩
def OwnE (X : Nat -> Prop) (w : World) (base : Nat) (v : Value) (l : PList) : Prop := (∀ b, base <= b -> X b) /\ ∃ vs : List (Value × Value), vs.length = l.length /\ w.ownsRow base 95 2 v l.length (flatP vs) /\ ∀ (j : Nat) (p : Value × Value) (e : List Int × List Int), vs[j]? = some p -> l[j]? = some e -> Gp2 (fun b => v.ownBlock ≠ some b /\ X b) w p e
theorem OwnE.pat {X : Nat -> Prop} {w : World} {base : Nat} {v : Value} {l : PList} (h : OwnE X w base v l) : ∃ a c vs, v = .slice a l.length c /\ PAt X w a l.length c vs l := by
 obtain ⟨hX, vs, h1, ⟨h2, h3⟩, h4⟩ := h
 rcases h3 with ⟨rfl, h5⟩ | ⟨g, cap, cur, rfl, hbg, hg, hc1, hc2, hc3, hc4⟩
 ·refine ⟨none, 0, vs, by rw [h5], h1, rfl, by omega, fun _ => ⟨h5, rfl⟩, fun j u hj => ?_, fun j p e q1 q2 => (h4 j p e q1 q2).mono (fun _ h => h.2), fun x hx => by cases hx⟩
  have : vs = [] := List.eq_nil_of_length_eq_zero (by omega)
  subst this; simp [flatP] at hj
 ·refine ⟨some ⟨g, 0, none⟩, cap, vs, rfl, h1, rfl, hc1, (fun e => by cases e), fun j u hj => ⟨g, 0, rfl, ?_⟩, fun j p e q1 q2 => (h4 j p e q1 q2).mono (fun _ h => h.2), fun x hx _ => by cases hx; exact hX _ hbg⟩
  rw [cell_of_row _ _ _ _ _ _ hg, Nat.zero_add]
  have hlt : j < (flatP vs).length := (List.getElem?_eq_some_iff.1 hj).1
  rw [Zbv, h1] at hlt
  rw [<- hc4, List.getElem?_take_of_lt (by omega)] at hj
  rw [<- Array.getElem?_toList]; exact hj
theorem Zv6 : ∃ i, Tryz.prog.info? 95 = some i /\ i.zero = some (.agg #[.slice none 0 0, .slice none 0 0]) /\ i.size = 2 /\ i.bytes = 48 := by
 have h : (Tryz.prog.info? 95).map (fun i => (i.zero, i.size, i.bytes)) = some (some (.agg #[.slice none 0 0, .slice none 0 0]), 2, 48) := by kernel_rfl
 cases hq : Tryz.prog.info? 95 with
 | none => rw [hq] at h; simp at h
 | some i => rw [hq] at h; simp at h; exact ⟨i, rfl, h.1, h.2.1, h.2.2⟩
theorem OwnE.far {X : Nat -> Prop} {w w' : World} {base : Nat} {v : Value} {l : PList} (h : OwnE X w base v l) (hb : Below w.heap.size w w') : OwnE X w' base v l := by
 obtain ⟨hX, vs, h1, ⟨h2, h3⟩, h4⟩ := h
 refine ⟨hX, vs, h1, ⟨h2, ?_⟩, fun j p e q1 q2 => (h4 j p e q1 q2).go hb⟩
 rcases h3 with q | ⟨g, cap, cur, e1, e2, e3, e4⟩
 ·exact .inl q
 ·exact .inr ⟨g, cap, cur, e1, e2, (hb.block g (lt_of_get e3)).trans e3, e4⟩
theorem OwnE.own {X : Nat -> Prop} {w : World} {base : Nat} {v : Value} {l : PList} (h : OwnE X w base v l) : ∀ k, v.ownBlock = some k -> base <= k /\ k < w.heap.size := by
 obtain ⟨hX, vs, h1, ⟨h2, h3⟩, h4⟩ := h
 intro k hk
 rcases h3 with ⟨rfl, _⟩ | ⟨g, cap, cur, rfl, hbg, hg, _⟩
 ·cases hk
 ·have e : g = k := by simpa [Value.ownBlock] using hk
  subst e
  exact ⟨hbg, lt_of_get hg⟩
theorem appEQ {X : Nat -> Prop} {w : World} {base : Nat} {v : Value} {l : PList} (hown : OwnE X w base v l) {K : Nat -> Prop} {a : Option Addr} {m c : Nat} {vs' : List (Value × Value)} {l' : PList} (h : PAt K w a m c vs' l') (hK : ∀ b, K b -> v.ownBlock ≠ some b /\ X b) (hlen : l.length + m <= 2932031007400) (hbase : base <= w.heap.size) :
  ∃ v' w', (∀ ty, (Builtin.append_ #[55, 55] ty #[v, .slice a m c]).run Tryz.prog w = .ok v' w') /\ OwnE X w' base v' (l ++ l') /\ Below base w w' /\ (∀ k, k < w.heap.size -> v.ownBlock ≠ some k -> w'.heap[k]? = w.heap[k]?) /\ (v'.ownBlock = v.ownBlock \/ v'.ownBlock = some w.heap.size) := by
 obtain ⟨i, hi, hz, hsz, hby⟩ := Zv6
 have hOw := hown.own
 obtain ⟨hX, vs, h1, h2, h4⟩ := id hown
 cases a with
 | none =>
  obtain ⟨rfl, rfl⟩ := h.nil rfl
  have hn0 : l' = [] := List.eq_nil_of_length_eq_zero h.ll
  subst hn0
  exact ⟨v, w, fun ty => run_append_owned_none w base 55 ty 95 i 2 Tryz.underlying55 hi v _ _ h2, by rw [List.append_nil]; exact hown, Below.refl _ _, fun _ _ _ => rfl, .inl rfl⟩
 | some ad =>
  have hc : ∀ j u, (flatP vs')[j]? = some u -> w.cell? (ad.add j) = some u := by
   intro j u hj
   obtain ⟨g, off, e1, e2⟩ := h.row j u hj
   cases e1
   rw [Za1]; exact e2
  have hone : ∀ u ∈ flatP vs', u.oneCell' = true := by
   intro u hu
   obtain ⟨p, hp, hup⟩ := List.mem_flatMap.1 hu
   obtain ⟨j, hj, e⟩ := List.mem_iff_getElem.1 hp
   have hjl : j < l'.length := by rw [h.ll, <- h.vl]; exact hj
   obtain ⟨a1, n1, c1, a2, n2, c2, q1, q2, _, _⟩ := h.gd j p l'[j] (by rw [List.getElem?_eq_getElem hj, e]) (List.getElem?_eq_getElem hjl)
   simp at hup
   rcases hup with q | q
   ·rw [q, q1]; rfl
   ·rw [q, q2]; rfl
  obtain ⟨v', w', r1, r2, r3, _, r5⟩ := run_append_own_at w base 55 0 95 i _ 2 48 Tryz.underlying55 hi hz hsz hby rfl (by decide) v l.length (flatP vs) h2 ad m c (flatP vs') (by rw [Zbv, h.vl]) hc hone (by unfold maxLen; omega) (by omega) hbase
  have hkeep : ∀ {K' : Nat -> Prop} {p : Value × Value} {e : List Int × List Int}, (∀ b, K' b -> v.ownBlock ≠ some b /\ X b) -> Gp2 K' w p e -> Gp2 (fun b => v'.ownBlock ≠ some b /\ X b) w' p e := by
   intro K' p e hK' hg
   obtain ⟨a1, n1, c1, a2, n2, c2, q1, q2, q3, q4⟩ := hg
   have hsk : ∀ {a : Option Addr} {n c : Nat} {bs : List Int}, Sk K' w a n c bs -> Sk (fun b => v'.ownBlock ≠ some b /\ X b) w' a n c bs := by
    intro a n c bs hs
    refine ⟨⟨?_, hs.ag.nil, hs.ag.l, hs.ag.b⟩, fun x hx hn => ?_⟩
    ·rcases hs.ag.i with q | ⟨gb, off, q1, q2, q3, q4, q5, q7⟩
     ·exact .inl q
     ·refine .inr ⟨gb, off, q1, q2, q3, q4, q5, fun j hj => ?_⟩
      rw [<- q7 j hj]
      exact World.cell?_of_block (r3.block gb (block_lt_of_cell (q7 j hj)) (fun e => (hK' _ (hs.k _ q1 q3)).1 e.symm))
    ·refine ⟨?_, (hK' _ (hs.k x hx hn)).2⟩
     rcases r5 with q | q
     ·rw [q]; exact (hK' _ (hs.k x hx hn)).1
     ·rw [q]; intro e; have := hs.old hx hn; simp at e; omega
   exact ⟨a1, n1, c1, a2, n2, c2, q1, q2, hsk q3, hsk q4⟩
  refine ⟨v', w', fun ty => r1, ⟨hX, vs ++ vs', by simp [h1, h.vl, h.ll], ?_, ?_⟩, ?_, fun k hk hn => r3.block k hk (fun e => hn e.symm), r5⟩
  ·rw [List.length_append, h.ll, Zlb]; exact r2
  ·intro j p e q1 q2
   by_cases hj : j < vs.length
   ·rw [List.getElem?_append_left hj] at q1
    rw [List.getElem?_append_left (by omega)] at q2
    exact hkeep (fun b hb => hb) (h4 j p e q1 q2)
   ·rw [List.getElem?_append_right (by omega)] at q1
    rw [List.getElem?_append_right (by omega), <- h1] at q2
    exact hkeep hK (h.gd _ p e q1 q2)
  ·exact (Below.refl _ _).grown r3 hbase (fun k hk => (hOw k hk).1)
theorem PAt.oneE {K : Nat -> Prop} {w w' : World} {g : Nat} {a a' : Option Addr} {n c n' c' : Nat} {k x : List Int} (h : New w w' g #[.slice a n c, .slice a' n' c'] 95) (h1 : Sk K w a n c k) (h2 : Sk K w a' n' c' x) (hKg : K g) : PAt K w' (some ⟨g, 0, none⟩) 1 1 [(.slice a n c, .slice a' n' c')] [(k, x)] := by
 refine ⟨rfl, rfl, Nat.le_refl _, (fun e => by cases e), fun j u hj => ⟨g, 0, rfl, ?_⟩, (fun j p e q1 q2 => ?_), fun x hx _ => by cases hx; exact hKg⟩
 ·rw [cell_of_row _ _ _ _ _ _ h.row, Nat.zero_add]
  match j, hj with
  | 0, hj => exact hj
  | 1, hj => exact hj
  | j + 2, hj => simp [flatP] at hj
 ·match j, q1, q2 with
  | 0, q1, q2 =>
   simp at q1 q2
   subst q1 q2
   exact ⟨a, n, c, a', n', c', rfl, rfl, h1.go h.below, h2.go h.below⟩
  | j + 1, q1, _ => simp at q1
theorem Zyw {X : Nat -> Prop} {w : World} {base : Nat} {v : Value} {l : PList} (hown : OwnE X w base v l) (hs : SlB w v) {K : Nat -> Prop} {g : Nat} {p : Value × Value} {e : List Int × List Int} (h : PAt K w (some ⟨g, 0, none⟩) 1 1 [p] [e]) (hK : ∀ b, K b -> v.ownBlock ≠ some b /\ X b) (hlen : l.length + 1 <= 2932031007400) (hbase : base <= w.heap.size) :
  ∃ v' w', (∀ ty, (Builtin.append_ #[55, 55] ty #[v, .slice (some ⟨g, 0, none⟩) 1 1]).run Tryz.prog w = .ok v' w') /\ OwnE X w' base v' (l ++ [e]) /\ SlB w' v' /\ Below base w w' /\ (∀ k, k < w.heap.size -> v.ownBlock ≠ some k -> w'.heap[k]? = w.heap[k]?) /\ (v'.ownBlock = v.ownBlock \/ v'.ownBlock = some w.heap.size) := by
 obtain ⟨v', w', h1, h2, h3, h4, h5⟩ := appEQ hown h hK hlen hbase
 refine ⟨v', w', h1, h2, ?_, h3, h4, h5⟩
 obtain ⟨i, hi, hz, hsz, hby⟩ := Zv6
 obtain ⟨hX, vs, q1, q2, q4⟩ := id hown
 obtain ⟨a1, n1, c1, a2, n2, c2, e1, e2, _, _⟩ := h.gd 0 p e rfl rfl
 refine Z0w (ty := 0) (m := 1) (c := 1) (a := ⟨g, 0, none⟩) (news := flatP [p]) Tryz.underlying55 hi hz hsz hby q2 hs (by simp [flatP]) (fun j u hj => ?_) (fun u hu => ?_) (by omega) (by unfold maxLen; omega) (by omega) (h1 0)
 ·obtain ⟨g', off, e3, e4⟩ := h.row j u hj
  cases e3
  rw [Za1]; exact e4
 ·simp only [flatP, List.flatMap_cons, List.flatMap_nil, List.append_nil, List.mem_cons, List.not_mem_nil, or_false] at hu
  rcases hu with rfl | rfl
  ·exact ⟨a1, n1, c1, e1⟩
  ·exact ⟨a2, n2, c2, e2⟩
theorem Zx1 {X Y : World} {B : Nat} {row : Option Nat} (hg : X.grownBy Y row) (hrow : ∀ r, row = some r -> B <= r /\ ∃ o : Obj, X.heap[r]? = some o /\ o.isCells = false) (k : Nat) (cs : Array Value) (T : TypeId) (fr : Nat × Nat) (hh : X.heap[k]? = some (.cells cs T fr)) : Y.heap[k]? = some (.cells cs T fr) := (hg.block k (lt_of_get hh) (fun e => by
 obtain ⟨_, o, ho, hc⟩ := hrow k e.symm
 rw [hh] at ho; cases ho; cases hc)).trans hh
theorem OwnE.cells {X : Nat -> Prop} {w w' : World} {base : Nat} {v : Value} {l : PList} (h : OwnE X w base v l) (hz : w.heap.size <= w'.heap.size) (hc : ∀ (k : Nat) (cs : Array Value) (T : TypeId) (fr : Nat × Nat), w.heap[k]? = some (Obj.cells cs T fr) -> w'.heap[k]? = some (Obj.cells cs T fr)) : OwnE X w' base v l := by
 obtain ⟨hX, vs, h1, ⟨h2, h3⟩, h4⟩ := h
 have hk : KpU (fun _ => False) w.heap.size w w' := ⟨hz, fun k cs T fr _ _ _ hh => hc k cs T fr hh⟩
 refine ⟨hX, vs, h1, ⟨h2, ?_⟩, fun j p e q1 q2 => ?_⟩
 ·rcases h3 with q | ⟨g, cap, cur, e1, e2, e3, e4⟩
  ·exact .inl q
  ·exact .inr ⟨g, cap, cur, e1, e2, hc g _ _ _ e3, e4⟩
 ·obtain ⟨a1, n1, c1, a2, n2, c2, e1, e2, e3, e4⟩ := h4 j p e q1 q2
  exact ⟨a1, n1, c1, a2, n2, c2, e1, e2, e3.kp hk (Nat.le_refl _) (fun _ _ h => h), e4.kp hk (Nat.le_refl _) (fun _ _ h => h)⟩
theorem OwnE.row {X : Nat -> Prop} {w : World} {base : Nat} {v : Value} {l : PList} (h : OwnE X w base v l) : ∀ k, v.ownBlock = some k -> ∃ cs, w.heap[k]? = some (.cells cs 95 (0, 0)) := by
 obtain ⟨hX, vs, h1, ⟨h2, h3⟩, h4⟩ := h
 intro k hk
 rcases h3 with ⟨rfl, _⟩ | ⟨g, cap, cur, rfl, hbg, hg, _⟩
 ·simp [Value.ownBlock] at hk
 ·simp only [Value.ownBlock, Option.some.injEq] at hk
  subst hk
  exact ⟨cur, hg⟩
theorem SlB.cells {X : Nat -> Prop} {w w' : World} {base : Nat} {v : Value} {l : PList} (hs : SlB w v) (h : OwnE X w base v l) (hc : ∀ (k : Nat) (cs : Array Value) (T : TypeId) (fr : Nat × Nat), w.heap[k]? = some (Obj.cells cs T fr) -> w'.heap[k]? = some (Obj.cells cs T fr)) : SlB w' v := fun k cur T fr hk hh => by
 obtain ⟨cs, e⟩ := h.row k hk
 have := hc k _ _ _ e
 rw [this] at hh; cases hh
 exact hs k _ _ _ hk e
structure EnI (w V : World) (gA : Nat) (pre : PList) (W : World) : Prop where
 b : Bl w W
 ex : ∃ v, Rw gA W #[v] 55 /\ OwnE (fun b => b ≠ gA) W V.heap.size v pre /\ SlB W v
 kp : ∀ (k : Nat) (cs : Array Value) (T : TypeId) (fr : Nat × Nat), k ≠ gA -> V.heap[k]? = some (Obj.cells cs T fr) -> W.heap[k]? = some (Obj.cells cs T fr)
 sz : V.heap.size <= W.heap.size
theorem EnI.own {w V : World} {gA : Nat} {B : Nat} (hB : w.heap.size <= B) : OwnFrom B (EnI w V gA) := fun pre X Y row hs hg hrow => by
 obtain ⟨v, h1, h2, h3⟩ := hs.ex
 have hc := Zx1 hg hrow
 exact ⟨Below.grown hs.b hg hs.b.size (fun k e => Nat.le_trans hB (hrow k e).1), ⟨v, hc _ _ _ _ h1, h2.cells hg.size hc, h3.cells h2 hc⟩, fun k cs T fr hk hh => hc _ _ _ _ (hs.kp k cs T fr hk hh), Nat.le_trans hs.sz hg.size⟩
theorem OwnE.none {X : Nat -> Prop} {w : World} {base : Nat} (hX : ∀ b, base <= b -> X b) : OwnE X w base (.slice none 0 0) [] := ⟨hX, [], rfl, World.ownsRow_nil w base _ 2, fun j p e q => by simp at q⟩
theorem OwnE.one {X : Nat -> Prop} {w : World} {base : Nat} {v : Value} {l : PList} (h : OwnE X w base v l) : v.oneCell' = true := by
 obtain ⟨a, c, vs, rfl, _⟩ := h.pat
 rfl
theorem OwnE.cel {X : Nat -> Prop} {w : World} {base : Nat} {v : Value} {l : PList} (h : OwnE X w base v l) : v.cells = #[v] := by
 obtain ⟨a, c, vs, rfl, _⟩ := h.pat
 rfl
theorem OwnE.tou {gL : Nat} {w w' : World} {base : Nat} {v : Value} {l : PList} (h : OwnE (fun b => b ≠ gL) w base v l) (ht : Touch gL w w') (hg : gL < base) : OwnE (fun b => b ≠ gL) w' base v l := by
 obtain ⟨hX, vs, h1, ⟨h2, h3⟩, h4⟩ := h
 refine ⟨hX, vs, h1, ⟨h2, ?_⟩, fun j p e q1 q2 => ?_⟩
 ·rcases h3 with q | ⟨g, cap, cur, e1, e2, e3, e4⟩
  ·exact .inl q
  ·exact .inr ⟨g, cap, cur, e1, e2, (ht.block g (lt_of_get e3) (by omega)).trans e3, e4⟩
 ·obtain ⟨a1, n1, c1, a2, n2, c2, e1, e2, e3, e4⟩ := h4 j p e q1 q2
  exact ⟨a1, n1, c1, a2, n2, c2, e1, e2, e3.tou ht (fun hb => hb.2 rfl), e4.tou ht (fun hb => hb.2 rfl)⟩
end Go.Proofs.YtefhepcplempkaaGreat
namespace Go.Proofs.YtefhepcplempkaaGreat
open Go.RowKit
open Ni (lessP Zez)
theorem Zex {P : Program} {w : World} {gb : Nat} : ∀ (bs : List Int) (off : Nat) (acc : ByteArray), (∀ j, j < bs.length -> w.cell? ⟨gb, off + j, none⟩ = some (.int .u8 (bs.getD j 0))) -> (Extern.Bytes.loadBytes ⟨gb, off, none⟩ bs.length acc).run P w = .ok ⟨acc.data ++ (Lib.bytesOf bs).toArray⟩ w
 | [], off, acc, h => by
  obtain ⟨d⟩ := acc
  simp [Extern.Bytes.loadBytes, Lib.bytesOf]
 | x :: r, off, acc, h => by
  have h0 := h 0 (by simp)
  rw [Nat.add_zero] at h0
  have e : (Extern.Bytes.loadBytes ⟨gb, off, none⟩ (x :: r).length acc).run P w = (Extern.Bytes.loadBytes ⟨gb, off + 1, none⟩ r.length (acc.push x.toNat.toUInt8)).run P w := by
   rw [List.length_cons, Extern.Bytes.loadBytes, Sem.run_bind, run_load, h0]
   simp only [List.getD_cons_zero, Result.andThen]
   rfl
  rw [e, Zex r (off + 1) (acc.push x.toNat.toUInt8) (fun j hj => by
   have := h (j + 1) (by simp; omega)
   rw [show off + 1 + j = off + (j + 1) from by omega, this]
   simp)]
  obtain ⟨d⟩ := acc
  simp [Lib.bytesOf, ByteArray.push, Nat.toUInt8]
theorem Zhw {P : Program} {K : Nat -> Prop} {w : World} {a : Option Addr} {n c : Nat} {p : List Int} (h : Sk K w a n c p) : (Extern.Bytes.bytesOf (.slice a n c)).run P w = .ok ⟨(Lib.bytesOf p).toArray⟩ w := by
 have hl := h.len
 rcases h.ag.i with ⟨h1, h2⟩ | ⟨gb, off, h1, h2, h3, h4, h5, h7⟩
 ·subst h1; subst h2
  cases a with
  | none => rfl
  | some ad => rfl
 ·subst h1
  have := Zex (P := P) p off ByteArray.empty (fun j hj => h7 j (by omega))
  rw [hl] at this
  show (Extern.Bytes.loadBytes ⟨gb, off, none⟩ n ByteArray.empty).run P w = _
  rw [this]
  show Result.ok (⟨(#[] : Array UInt8) ++ (Lib.bytesOf p).toArray⟩ : ByteArray) w = _
  rw [Array.empty_append]
theorem Zzc {x y : Int} (hx : 0 <= x /\ x < 256) (hy : 0 <= y /\ y < 256) : (UInt8.ofNat x.toNat < UInt8.ofNat y.toNat) ↔ x < y := by
 rw [UInt8.lt_iff_toNat_lt, UInt8.toNat_ofNat', UInt8.toNat_ofNat']
 omega
theorem Zsg : ∀ p q : List Int, (∀ x ∈ p, 0 <= x /\ x < 256) -> (∀ x ∈ q, 0 <= x /\ x < 256) -> Lib.compareBytes (Lib.bytesOf p) (Lib.bytesOf q) = cmpP p q
 | [], [], _, _ => rfl
 | [], y :: q, _, _ => by simp [Lib.bytesOf, Lib.compareBytes, cmpP, lessP]
 | x :: p, [], _, _ => by simp [Lib.bytesOf, Lib.compareBytes, cmpP, lessP]
 | x :: p, y :: q, hp, hq => by
  have hx := hp x (by simp)
  have hy := hq y (by simp)
  have ih := Zsg p q (fun z hz => hp z (List.mem_cons_of_mem _ hz)) (fun z hz => hq z (List.mem_cons_of_mem _ hz))
  have e : Lib.compareBytes (Lib.bytesOf (x :: p)) (Lib.bytesOf (y :: q)) = if UInt8.ofNat x.toNat < UInt8.ofNat y.toNat then -1 else if UInt8.ofNat y.toNat < UInt8.ofNat x.toNat then 1 else Lib.compareBytes (Lib.bytesOf p) (Lib.bytesOf q) := rfl
  rw [e, ih]
  simp only [Zzc hx hy, Zzc hy hx]
  by_cases h : x = y
  ·subst h
   have e2 : cmpP (x :: p) (x :: q) = cmpP p q := by
    unfold cmpP
    simp [lessP]
   rw [e2]
   simp
  ·have e2 : cmpP (x :: p) (y :: q) = if x < y then -1 else 1 := by
    unfold cmpP
    simp [lessP, h]
   rw [e2]
   by_cases h1 : x < y
   ·simp [h1]
   ·rw [if_neg h1, if_neg h1, if_pos (by omega)]
theorem Zyq {P : Program} {K K' : Nat -> Prop} {w : World} {a a' : Option Addr} {n c n' c' : Nat} {p q : List Int} (h1 : Sk K w a n c p) (h2 : Sk K' w a' n' c' q) : (Extern.BytealgCompare.compare #[.slice a n c, .slice a' n' c']).run P w = .ok (.int .i64 (cmpP p q)) w := by
 change Sem.run P (do pure (goInt (Extern.BytealgCompare.cmp (← Extern.Bytes.bytesOf (.slice a n c)) (← Extern.Bytes.bytesOf (.slice a' n' c'))))) w = _
 simp only [Sem.run_bind, Zhw h1, Zhw h2, Sem.run_pure, Result.andThen]
 rw [Lib.cmp_eq]
 show Result.ok (goInt (Lib.compareBytes (Lib.bytesOf p) (Lib.bytesOf q))) w = _
 rw [Zsg p q h1.ag.b h2.ag.b]
 rfl
theorem Zzx {w : World} {ρ : Operand -> Value} {o : Oper} {u v r : Value} (x y : Operand) (tys : Array TypeId) (ho : o.op = .call { callee := .value (.func 75), args := #[x, y], argTypes := tys }) (hf : ρ (.func 75) = .func (.func 75) #[] #[]) (hx : ρ x = u) (hy : ρ y = v) (hr : (Extern.BytealgCompare.compare #[u, v]).run Tryz.prog w = .ok r w) : (execOp ρ o).run Tryz.prog w = .ok (.value r) w := by
 unfold execOp
 simp only [ho, resolve, hf, Deferred.ofValue, Sem.run_bind, Sem.run_pure, Result.andThen_ok, List.map_toArray, List.map_cons, List.map_nil, hx, hy, invoke, List.append_toArray, List.nil_append, List.append_nil]
 rw [run_callFunc_extern Tryz.func75 (by kernel_rfl) (by kernel_rfl) (by kernel_rfl) (e := Extern.BytealgCompare.compare) (by kernel_rfl), hr]
 rfl
theorem Zu7 {K K' : Nat -> Prop} {w : World} {a a' : Option Addr} {n c n' c' : Nat} {p q : List Int} (h1 : Sk K w a n c p) (h2 : Sk K' w a' n' c' q) :
  Calls Tryz.prog 46 #[.slice a n c, .slice a' n' c'] w fun e w' => e = .returned (.int .i64 (cmpP p q)) /\ w' = w := by
 refine Zaj Tryz.func46 rfl 8 rfl ?_
 show CW _ _ _ _ _ _ _ [(0, .slice a n c), (1, .slice a' n' c')] _
 refine Zac <| Zaa <| rp 4 (.int .i64 0) <| Zad <| Zab <| Zac <| Zaa <| rp 5 (.slice a n c) <| rp 6 (.slice a' n' c') <| rv 7 (.int .i64 (cmpP p q)) (fun _ => Zzx _ _ _ rfl rfl (by kernel_rfl) (by kernel_rfl) (Zyq h1 h2)) <| rp 4 (.int .i64 (cmpP p q)) <| Zad ?_
 refine Zab <| Zap ?_
 exact Zae (.int .i64 (cmpP p q)) (fun _ => by kernel_rfl) ⟨rfl, rfl⟩
end Go.Proofs.YtefhepcplempkaaGreat
namespace Go.Proofs.YtefhepcplempkaaGreat
open Go.RowKit
open Tr
structure Bt (K : Nat -> Prop) (w : World) (a : Option Addr) (n : Nat) (M : List (List Int)) : Prop where
 len : M.length = n
 row : ∀ j, j < n -> ∃ g off a' n' c', a = some ⟨g, off, none⟩ /\ w.cell? ⟨g, off + j * 1, none⟩ = some (.slice a' n' c') /\ Sk K w a' n' c' (M.getD j [])
theorem Bt.go {K : Nat -> Prop} {w w' : World} {a : Option Addr} {n : Nat} {M : List (List Int)} (h : Bt K w a n M) (hb : Below w.heap.size w w') : Bt K w' a n M := ⟨h.len, fun j hj => by
 obtain ⟨g, off, a', n', c', h1, h2, h3⟩ := h.row j hj
 exact ⟨g, off, a', n', c', h1, (hb.cell (p := ⟨g, off + j * 1, none⟩) (block_lt_of_cell h2)).trans h2, h3.go hb⟩⟩
theorem Bt.drew {K : Nat -> Prop} {w : World} {a : Option Addr} {n : Nat} {M : List (List Int)} (h : Bt K w a n M) : Bt K w.drew a n M := h.go (Below.refl _ _).drew
structure Two (K K' : Nat -> Prop) (w : World) (p p' : Addr) (a a' : Option Addr) (n c n' c' : Nat) (x y : List Int) : Prop where
 cc : w.cell? p = some (.slice a n c)
 sk : Sk K w a n c x
 cc' : w.cell? p' = some (.slice a' n' c')
 sk' : Sk K' w a' n' c' y
theorem Two.drew {K K' : Nat -> Prop} {w : World} {p p' : Addr} {a a' : Option Addr} {n c n' c' : Nat} {x y : List Int} (h : Two K K' w p p' a a' n c n' c' x y) : Two K K' w.drew p p' a a' n c n' c' x y := ⟨h.cc, h.sk.drew, h.cc', h.sk'.drew⟩
theorem Two.go {K K' : Nat -> Prop} {w w' : World} {p p' : Addr} {a a' : Option Addr} {n c n' c' : Nat} {x y : List Int} (h : Two K K' w p p' a a' n c n' c' x y) (hb : Below w.heap.size w w') : Two K K' w' p p' a a' n c n' c' x y := ⟨(hb.cell (p := p) (block_lt_of_cell h.cc)).trans h.cc, h.sk.go hb, (hb.cell (p := p') (block_lt_of_cell h.cc')).trans h.cc', h.sk'.go hb⟩
end Go.Proofs.YtefhepcplempkaaGreat
namespace Go.Proofs.YtefhepcplempkaaGreat
open Go.RowKit
def flatR (ys : List RV) : List Value := ys.flatMap RV.cells
theorem Zdw : ∀ {ys : List RV}, (∀ y ∈ ys, y.d.length = 32) -> (flatR ys).length = ys.length * 34
 | [], _ => rfl
 | y :: r, h => by
  have ih := Zdw fun z hz => h z (List.mem_cons_of_mem _ hz)
  unfold flatR at ih ⊢
  rw [List.flatMap_cons, List.length_append, ih, RV.len (h y (by simp)), List.length_cons]
  omega
theorem Ze6 (a b : List RV) : flatR (a ++ b) = flatR a ++ flatR b := by unfold flatR; rw [List.flatMap_append]
theorem Zk9 (y : RV) : flatR [y] = y.cells := by unfold flatR; rw [List.flatMap_cons, List.flatMap_nil, List.append_nil]
theorem Z0a : ∃ i, Tryz.prog.info? 65 = some i /\ i.zero = some (.agg rz.cells.toArray) /\ i.size = 34 /\ i.bytes = 64 := by
 have h : (Tryz.prog.info? 65).map (fun i => (i.zero, i.size, i.bytes)) = some (some (.agg rz.cells.toArray), 34, 64) := by kernel_rfl
 cases hq : Tryz.prog.info? 65 with
 | none => rw [hq] at h; simp at h
 | some i => rw [hq] at h; simp at h; exact ⟨i, rfl, h.1, h.2.1, h.2.2⟩
theorem Zz6 : madeCells (Value.agg rz.cells.toArray).cells ((16 : Int).toNat * 34) = (flatR (List.replicate 16 rz)).toArray := by kernel_rfl
section
variable {a : Act} {w : World}
theorem Zkl {o : Oper} (ho : o.op = .makeSlice 66 (.const (.int .i64 16)) (.const (.int .i64 16))) : (execOp a.eval o).run Tryz.prog w = .ok (.value (.slice (some ⟨w.heap.size, 0, none⟩) 16 16)) (w.alloc (.cells (flatR (List.replicate 16 rz)).toArray 65)) := by
 obtain ⟨i, hi, hz, hsz, hby⟩ := Z0a
 have hr : (Instr.makeSlice 66 (.int .i64 16) (.int .i64 16)).run Tryz.prog w = .ok (.slice (some ⟨w.heap.size, 0, none⟩) 16 16) (w.alloc (.cells (flatR (List.replicate 16 rz)).toArray 65)) := by
  have h := run_make (P := Tryz.prog) w 66 65 i _ Tryz.underlying66 hi hz .i64 .i64 16 16 (by omega) (by omega) (by rw [hby]; omega) (by omega)
  rw [hsz, show madeCells (Value.agg rz.cells.toArray).cells ((16 : Int).toNat * 34) = (flatR (List.replicate 16 rz)).toArray from Zz6] at h
  exact h
 unfold execOp
 rw [ho]
 simp only [Act.eval, Sem.run_bind, hr, Result.andThen_ok, Sem.run_pure]
theorem Zkn {o : Oper} (ho : o.op = .alloc 68) : (execOp a.eval o).run Tryz.prog w = .ok (.value (.pointer (some ⟨w.heap.size, 0, none⟩))) (w.alloc (.cells nz.cells.toArray 68)) := by
 unfold execOp
 rw [ho]
 go_simp
 rfl
theorem Zog {x y : Operand} {o : Oper} (ho : o.op = .store 65 x y) (g off : Nat) (r : RV) (hl : r.d.length = 32) (hx : a.eval x = .pointer (some ⟨g, off, none⟩)) (hy : a.eval y = .agg r.cells.toArray) (t : TypeId) (cur : Array Value)
  (hg : w.heap[g]? = some (.cells cur t (0, 0))) (hfit : off + 34 <= cur.size) :
  (execOp a.eval o).run Tryz.prog w = .ok .skip (w.setRow g (cur.toList.take off ++ r.cells ++ cur.toList.drop (off + 34)).toArray) := by
 have hst := run_storeCells_at Tryz.prog g off t r.cells 0 cur w hg (by rw [RV.len hl]; omega) r.one
 have hi := Zbx
 cases hq : Tryz.prog.info? 65 with
 | none => rw [hq] at hi; simp at hi
 | some i =>
  have hs : i.size = 34 := by rw [hq] at hi; simpa using hi
  have hsv : (storeVar 65 ⟨g, off, none⟩ (.agg r.cells.toArray)).run Tryz.prog w = .ok () (w.setRow g (cur.toList.take off ++ r.cells ++ cur.toList.drop (off + 34)).toArray) := by
   rw [RV.len hl] at hst
   simp [storeVar, sizeOf, typeInfo, hq, Value.cells, hs, RV.len hl]
   simpa using hst
  unfold execOp
  rw [ho]
  simp only [hx, hy, Instr.storeAt, Instr.sureAddr, Sem.run_bind, Sem.run_pure, Result.andThen_ok, hsv]
end
end Go.Proofs.YtefhepcplempkaaGreat
